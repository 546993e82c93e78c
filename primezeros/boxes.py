"""BOXES: the rests of POLYS in them, and the POINTS at which POLYS are alive."""

from primezeros.errors import BadBox
from primezeros.fields import are_rests, is_ascending, is_tuple_of, points
from primezeros.polys import MOST_POWER, degree, lowered_powers, need_poly, poly_with_terms, values


def rest_in(field, poly, box):
    """The one POLY that fits a BOX and has the values of a POLY at its POINTS."""
    _need_poly_and_box(field, poly, box)
    prime = field[0]
    table = {powers: factor for powers, factor in poly}
    for number, place in enumerate(box):
        rows = lowered_powers(prime, _tail(prime, place), MOST_POWER)
        table = _lowered(prime, table, number, rows)
    return poly_with_terms(table)


def alive_point(field, poly, box):
    """The first POINT of a BOX at which a POLY is not 0, or None."""
    _need_poly_and_box(field, poly, box)
    for point, value in zip(points(field), values(field, poly)):
        if value != 0 and _is_inside(point, box):
            return point
    return None


def is_promised(field, poly, box):
    """Whether a term with POWERS of the greatest sum fits a BOX."""
    _need_poly_and_box(field, poly, box)
    greatest = degree(field, poly)
    return any([sum(powers) == greatest and _fits(powers, box) for powers, _ in poly])


def _need_poly_and_box(field, poly, box):
    need_poly(field, poly)
    prime, many = field
    if not is_tuple_of(box, many) or not all([_is_place(prime, place) for place in box]):
        raise BadBox(box)


def _is_place(prime, thing):
    """Whether a value is an ascending tuple of rests, at least one."""
    if not isinstance(thing, tuple) or len(thing) == 0:
        return False
    return are_rests(prime, thing, len(thing)) and is_ascending(thing)


def _is_inside(point, box):
    return all([item in place for item, place in zip(point, box)])


def _fits(powers, box):
    return all([power < len(place) for power, place in zip(powers, box)])


def _tail(prime, place):
    """The factors, from the power 0 on, of what the power len(place) is worth at these rests."""
    # The product of the unknown less each of the rests is 0 at all of them.
    factors = [1]
    for item in place:
        factors = [(ahead - item * here) % prime for ahead, here in zip([0] + factors, factors + [0])]
    return [-factor % prime for factor in factors[:-1]]


def _lowered(prime, table, number, rows):
    """A dict of POWERS and factors, each power of one unknown given its row of lower ones."""
    lower = {}
    for powers, factor in table.items():
        for power, by in enumerate(rows[powers[number]]):
            less = powers[:number] + (power,) + powers[number + 1:]
            lower[less] = (lower.get(less, 0) + factor * by) % prime
    return lower
