"""What the degrees of a SYSTEM promise of its ZEROS; norms, and SYSTEMS with a lonely zero."""

from primezeros.errors import BadNumber
from primezeros.fields import is_integer_in, need_field, one_alone, power_of
from primezeros.polys import degree, lowered_powers, poly_with_terms
from primezeros.systems import indicator, need_system, zeros

MOST_DEGREES = 4
GREATEST_DEGREE = 8

# For each P and K the factors of 1, a, .. that the power K of a is worth. Each time a ** K less
# these is irreducible, so that the rests by P with such an a make a field of P ** K things.
TAILS = {
    (2, 1): (0,), (2, 2): (1, 1), (2, 3): (1, 1, 0), (2, 4): (1, 1, 0, 0),
    (3, 1): (0,), (3, 2): (2, 0), (3, 3): (2, 1, 0), (3, 4): (1, 2, 0, 0),
    (5, 1): (0,), (5, 2): (3, 0), (5, 3): (3, 2, 0), (5, 4): (2, 0, 0, 0),
    (7, 1): (0,), (7, 2): (6, 0), (7, 3): (2, 0, 0),
}


def _degrees(field, system):
    return [degree(field, poly) for poly in need_system(field, system)]


def promise(field, system):
    """The promise of a SYSTEM: the power of P that is sure to part the number of its ZEROS."""
    degrees = _degrees(field, system)
    greatest = max(degrees)
    lacking = max(0, field[1] - sum(degrees))
    return (lacking + greatest - 1) // greatest


def top(field, system):
    """What stands in the INDICATOR of a SYSTEM with P - 1 as each power, 0 if nothing does."""
    poly = indicator(field, system)
    prime, many = field
    for powers, factor in poly:
        if powers == (prime - 1,) * many:
            return factor
    return 0


def least_zeros(field, system):
    """The number of ZEROS that a SYSTEM has at least if it has one."""
    degrees = _degrees(field, system)
    return power_of(field[0], max(0, field[1] - sum(degrees)))


def norm(field, many):
    """A POLY with the degree many that is 0 just where the first many items of a POINT are 0."""
    unknowns = need_field(field)[1]
    if not is_integer_in(many, 1, unknowns):
        raise BadNumber(many)
    return _norm_from(field, many, 0)


def lonely(field, degrees):
    """A lonely SYSTEM of POLYS of at most these degrees, or None if there is none."""
    unknowns = need_field(field)[1]
    if not _are_degrees(degrees):
        raise BadNumber(degrees)
    if sum(degrees) < unknowns:
        return None
    polys = []
    start = 0
    for most in degrees:
        many = min(most, unknowns - start)
        if many > 0:
            polys.append(_norm_from(field, many, start))
        else:
            # Each unknown stands in a norm by now; this one is 0 at Nought, as it has to be.
            polys.append(_norm_from(field, 1, 0))
        start = start + many
    return tuple(polys)


def is_lonely(field, system):
    """Whether Nought is the one ZERO of a SYSTEM."""
    return zeros(field, system) == ((0,) * field[1],)


def _are_degrees(thing):
    if not isinstance(thing, tuple) or not 1 <= len(thing) <= MOST_DEGREES:
        return False
    return all([is_integer_in(each, 1, GREATEST_DEGREE) for each in thing])


def _norm_from(field, many, start):
    """The norm in so many unknowns, from the one with the number start on."""
    prime, unknowns = field
    # The norm of x0 + x1 * a + .. is the determinant of the rows that it has, multiplied by
    # 1, a, .. in turn. As it is over a field, it is 0 for nothing but 0.
    powers_of_a = lowered_powers(prime, TAILS[(prime, many)], 2 * (many - 1))
    singles = [one_alone(unknowns, start + number) for number in range(many)]
    rows = [
        [{singles[k]: powers_of_a[k + by][at] for k in range(many)} for at in range(many)]
        for by in range(many)
    ]
    return poly_with_terms(_determinant(prime, rows))


def _determinant(prime, rows):
    """The determinant of rows of dicts of POWERS and factors, as such a dict."""
    if len(rows) == 1:
        return rows[0][0]
    total = {}
    sign = 1
    for at, entry in enumerate(rows[0]):
        smaller = [row[:at] + row[at + 1:] for row in rows[1:]]
        total = _with_product(prime, total, entry, _determinant(prime, smaller), sign)
        sign = -sign
    return total


def _with_product(prime, total, one, two, sign):
    """The sum of a dict of POWERS and factors and, by its sign, the product of two others."""
    # The powers of a norm may be P and more, so this does not go by reduced POLYS.
    table = {powers: total[powers] for powers in total}
    for powers, factor in one.items():
        for more, by in two.items():
            both = tuple([power + plus for power, plus in zip(powers, more)])
            table[both] = (table.get(both, 0) + sign * factor * by) % prime
    return table
