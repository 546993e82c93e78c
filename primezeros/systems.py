"""SYSTEMS, their ZEROS and INDICATORS."""

from primezeros.errors import BadSystem
from primezeros.fields import need_field, points
from primezeros.polys import degree, poly_fault, poly_of, values

MOST_POLYS = 4


def need_system(field, thing):
    """The value itself if it is a SYSTEM of the FIELD; BadSystem otherwise."""
    need_field(field)
    if not isinstance(thing, tuple) or not 1 <= len(thing) <= MOST_POLYS:
        raise BadSystem(())
    for number, poly in enumerate(thing):
        if poly_fault(field, poly) is not None or degree(field, poly) < 1:
            raise BadSystem((number,))
    return thing


def _marks(field, system):
    """For each POINT, in their order, 1 if it is one of the ZEROS, otherwise 0."""
    need_system(field, system)
    rows = [values(field, poly) for poly in system]
    return tuple([0 if any(column) else 1 for column in zip(*rows)])


def zeros(field, system):
    """The ascending tuple of the POINTS at which all POLYS of a SYSTEM have the value 0."""
    marks = _marks(field, system)
    return tuple([point for point, mark in zip(points(field), marks) if mark == 1])


def count(field, system):
    """How many ZEROS a SYSTEM has."""
    return sum(_marks(field, system))


def indicator(field, system):
    """The reduced POLY with the value 1 at the ZEROS of a SYSTEM, and 0 at all other POINTS."""
    return poly_of(field, _marks(field, system))


def have_alike_zeros(field, system, other):
    """Whether two SYSTEMS have the same ZEROS."""
    return _marks(field, system) == _marks(field, other)


def one_poly(field, system):
    """The reduced POLY with the value 0 at the ZEROS of a SYSTEM, and 1 at all other POINTS."""
    return poly_of(field, tuple([1 - mark for mark in _marks(field, system)]))
