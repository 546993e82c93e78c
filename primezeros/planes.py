"""PLANES, and how they cover all POINTS but Nought."""

from primezeros.errors import BadPlanes
from primezeros.fields import are_rests, is_integer_in, is_tuple_of
from primezeros.fields import need_field, one_alone, points, sum_of_products

MOST_PLANES = 60


def uncovered(field, planes):
    """The first POINT but Nought that none of some PLANES covers, or None."""
    need_field(field)
    if not isinstance(planes, tuple) or len(planes) > MOST_PLANES:
        raise BadPlanes(())
    for number, plane in enumerate(planes):
        if not _is_plane(field, plane):
            raise BadPlanes((number,))
    return _first_uncovered(field, planes)


def cover(field):
    """N times (P - 1) PLANES that cover all POINTS but Nought."""
    prime, many = need_field(field)
    # Each POINT but Nought has an item that is not 0, and there is a PLANE for each such item.
    return tuple([
        (one_alone(many, number), rest) for number in range(many) for rest in range(1, prime)
    ])


def is_cover(field, value):
    """Whether any value is a tuple of PLANES that cover all POINTS but Nought."""
    need_field(field)
    if not isinstance(value, tuple) or not all([_is_plane(field, each) for each in value]):
        return False
    return _first_uncovered(field, value) is None


def _is_plane(field, thing):
    prime, many = field
    if not is_tuple_of(thing, 2):
        return False
    factors, rest = thing
    return are_rests(prime, factors, many) and any(factors) and is_integer_in(rest, 1, prime - 1)


def _first_uncovered(field, planes):
    for point in points(field):
        if any(point) and not _is_covered(field, planes, point):
            return point
    return None


def _is_covered(field, planes, point):
    for factors, rest in planes:
        if sum_of_products(field[0], factors, point) == rest:
            return True
    return False
