"""POLYS: their values, degrees and reduced forms.

Where a list has one item for each POINT, it has them in the order of the POINTS. The POWERS of the
terms of reduced POLYS are the same tuples as the POINTS, so factors are listed in that order too.
"""

from primezeros.errors import BadNumber, BadPoly
from primezeros.fields import are_rests, is_integer_in, is_tuple_of
from primezeros.fields import need_field, need_point, points, power_of

MOST_TERMS = 700
MOST_POWER = 30


def _are_powers(thing, many):
    return is_tuple_of(thing, many) and all([is_integer_in(power, 0, MOST_POWER) for power in thing])


def _is_term(field, thing):
    prime, many = field
    if not is_tuple_of(thing, 2):
        return False
    powers, factor = thing
    return _are_powers(powers, many) and is_integer_in(factor, 1, prime - 1)


def poly_fault(field, thing):
    """The place at which a value is no POLY of the FIELD, or None if it is one."""
    if not isinstance(thing, tuple) or len(thing) > MOST_TERMS:
        return ()
    ahead = ()
    for number, term in enumerate(thing):
        # The empty tuple is less than any POWERS, so the first term needs no case of its own.
        if not _is_term(field, term) or term[0] <= ahead:
            return (number,)
        ahead = term[0]
    return None


def need_poly(field, thing):
    """The value itself if it is a POLY of the FIELD; BadPoly otherwise."""
    place = poly_fault(need_field(field), thing)
    if place is not None:
        raise BadPoly(place)
    return thing


def value_at(field, poly, point):
    """The value of a POLY at a POINT."""
    need_poly(field, poly)
    need_point(field, point)
    total = 0
    for powers, factor in poly:
        worth = factor
        for item, power in zip(point, powers):
            worth = worth * power_of(item, power)
        total = total + worth
    return total % field[0]


def values(field, poly):
    """The tuple of the values of a POLY at all POINTS, in their order."""
    need_poly(field, poly)
    return tuple(_along_each_unknown(field, _factors(field, poly), _table_of_values(field[0])))


def degree(field, poly):
    """The degree of a POLY, -1 of the empty one."""
    need_poly(field, poly)
    return max([sum(powers) for powers, _ in poly], default=-1)


def reduced(field, poly):
    """The reduced form of a POLY."""
    need_poly(field, poly)
    return _poly_with(field, _factors(field, poly))


def added(field, poly, other):
    """The reduced POLY with the sum of both values at each POINT."""
    prime = need_field(field)[0]
    rests = [(one + two) % prime for one, two in zip(values(field, poly), values(field, other))]
    return poly_of(field, tuple(rests))


def multiplied(field, poly, other):
    """The reduced POLY with the product of both values at each POINT."""
    prime = need_field(field)[0]
    rests = [one * two % prime for one, two in zip(values(field, poly), values(field, other))]
    return poly_of(field, tuple(rests))


def poly_of(field, rests):
    """The reduced POLY that has these values at the POINTS."""
    prime, many = need_field(field)
    if not are_rests(prime, rests, power_of(prime, many)):
        raise BadNumber(rests)
    return _poly_with(field, _along_each_unknown(field, rests, _table_of_factors(prime)))


def are_alike(field, poly, other):
    """Whether two POLYS have the same value at each POINT."""
    return values(field, poly) == values(field, other)


def parting_point(field, poly, other):
    """The first POINT at which the values of two POLYS are not the same, or None."""
    pairs = list(zip(values(field, poly), values(field, other)))
    for point, (one, two) in zip(points(field), pairs):
        if one != two:
            return point
    return None


def poly_with_terms(table):
    """The POLY whose terms are the POWERS and factors of a dict, but for the noughts among them."""
    return tuple(sorted([(powers, factor) for powers, factor in table.items() if factor != 0]))


def lowered_powers(prime, tail, most):
    """For each power from 0 to most a row of factors of the powers below len(tail) that it is worth.

    The power len(tail) itself is worth the row tail.
    """
    row = [1] + [0] * (len(tail) - 1)
    rows = []
    for _ in range(most + 1):
        rows.append(row)
        last = row[-1]
        row = [(ahead + last * factor) % prime for ahead, factor in zip([0] + row[:-1], tail)]
    return rows


def _lessened(prime, power):
    """A power, made less by P - 1 until it is at most P - 1."""
    if power == 0:
        # A power of 0 is no power of P - 1: they part at the item 0.
        return 0
    return (power - 1) % (prime - 1) + 1


def _factors(field, poly):
    """The list of the factors of the reduced form of a POLY, noughts among them."""
    prime, many = field
    factors = [0] * power_of(prime, many)
    for powers, factor in poly:
        at = 0
        for power in powers:
            at = at * prime + _lessened(prime, power)
        factors[at] = (factors[at] + factor) % prime
    return factors


def _poly_with(field, factors):
    """The reduced POLY with these factors, noughts among them."""
    return tuple([(powers, factor) for powers, factor in zip(points(field), factors) if factor != 0])


def _table_of_values(prime):
    """For each item a row: what the factor of each power adds to the value there."""
    return [[power_of(item, power) % prime for power in range(prime)] for item in range(prime)]


def _table_of_factors(prime):
    """For each power a row: what the value at each item adds to the factor there."""
    # 1 - (x - item) ** (P - 1) is 1 at the item and 0 elsewhere. Multiplied out, it has
    # -item ** (P - 1 - power) with each power from 1 on, and 1 with the power 0 if the item is 0.
    constant = [1] + [0] * (prime - 1)
    return [constant] + [
        [-power_of(item, prime - 1 - power) % prime for item in range(prime)] for power in range(1, prime)
    ]


def _along_each_unknown(field, worths, table):
    """One worth for each POINT, turned by a table in one unknown after the other."""
    prime, many = field
    size = len(worths) // prime
    for _ in range(many):
        turned = []
        for at in range(size):
            line = worths[at::size]
            # This puts the first unknown last; after a round for each, all are in their old order.
            for row in table:
                turned.append(sum([one * two for one, two in zip(row, line)]) % prime)
        worths = turned
    return worths
