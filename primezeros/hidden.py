"""LOTS of POINTS, how deep they hide another POINT, and PAPERS on it."""

from primezeros.errors import BadLot, BadPaper, BadPoint, TooGreat
from primezeros.fields import is_ascending, is_integer_in, is_point, is_tuple_of
from primezeros.fields import need_field, need_point, points, power_of, sum_of_products
from primezeros.polys import degree, poly_fault, poly_of, values

MOST_POINTS = 130


def depth(field, lot, point):
    """The least degree of a POLY that is 0 on a LOT, but not at a POINT."""
    poly, _ = depth_paper(field, lot, point)
    return degree(field, poly)


def depth_paper(field, lot, point):
    """A PAPER on the depth of a POINT beside a LOT."""
    _need_lot_and_point(field, lot, point)
    rows = _cleared_rows(field, lot, point)
    _, told = rows[-1]
    return poly_of(field, tuple(told)), _weights_against(field, rows[:-1], point)


def check_depth(field, lot, point, paper):
    """The depth that a PAPER tells; BadPaper if it is none."""
    _need_lot_and_point(field, lot, point)
    if not is_tuple_of(paper, 2):
        raise BadPaper("form")
    poly, weights = paper
    if not _is_parting(field, lot, point, poly):
        raise BadPaper("poly")
    deep = degree(field, poly)
    if not _are_weights(field, lot, point, weights) or not _are_balanced(field, weights, deep):
        raise BadPaper("weights")
    return deep


def _need_lot_and_point(field, lot, point):
    prime, many = need_field(field)
    if not _is_lot(field, lot):
        raise BadLot(lot)
    if need_point(field, point) in lot:
        raise BadPoint(point)
    if power_of(prime, many) > MOST_POINTS:
        raise TooGreat(MOST_POINTS)


def _is_lot(field, thing):
    if not isinstance(thing, tuple) or not all([is_point(field, each) for each in thing]):
        return False
    return is_ascending(thing)


def _places(field):
    """The number of each POINT in their order."""
    return {point: place for place, point in enumerate(points(field))}


def _single_values(field, powers):
    """The values of a POLY of one term."""
    return values(field, ((powers, 1),))


def _cleared_rows(field, lot, point):
    """Pairs of a place and the values of a POLY, 1 at that place, 0 at those of the pairs ahead.

    The last place is that of the POINT, the others are of the LOT. The last POLY is 0 on all of it,
    and has the least degree of all that are so, but not at the POINT; all with a lesser degree have
    the values of sums of the rows ahead on the LOT and at the POINT.
    """
    prime = field[0]
    places = _places(field)
    asked = [places[each] for each in lot + (point,)]
    rows = []
    # Reduced POLYS do, as none of the others has a lesser degree than its reduced form. In the
    # order of their degrees, the first row that is 0 on the LOT alone has the least one.
    for powers in sorted(points(field), key=sum):
        row = _cleared(prime, rows, _single_values(field, powers))
        alive = [place for place in asked if row[place] != 0]
        if alive:
            rows.append((alive[0], _scaled(prime, row, alive[0])))
            if alive[0] == asked[-1]:
                break
    return rows


def _cleared(prime, rows, row):
    """A row less multiples of earlier ones, so that it is 0 at their places."""
    for place, other in rows:
        by = row[place]
        if by != 0:
            row = [(one - by * two) % prime for one, two in zip(row, other)]
    return row


def _scaled(prime, row, place):
    """The multiple of a row that is 1 at a place."""
    # The power P - 2 of a rest is what makes 1 with it.
    by = power_of(row[place], prime - 2)
    return [by * each % prime for each in row]


def _weights_against(field, rows, point):
    """WEIGHTS of a POINT, and of the places of rows, with which each row has the sum 0."""
    prime = field[0]
    weights = [0] * power_of(prime, field[1])
    weights[_places(field)[point]] = 1
    # A row is 0 at the places of those ahead of it: what is settled last leaves it as it is.
    for place, row in reversed(rows):
        weights[place] = -sum_of_products(prime, row, weights) % prime
    return tuple([(each, weight) for each, weight in zip(points(field), weights) if weight != 0])


def _is_parting(field, lot, point, thing):
    """Whether a value is a POLY that is 0 on a LOT, and not at a POINT."""
    if poly_fault(field, thing) is not None:
        return False
    worths = values(field, thing)
    places = _places(field)
    return worths[places[point]] != 0 and not any([worths[places[each]] for each in lot])


def _is_weight(field, thing):
    return is_tuple_of(thing, 2) and is_point(field, thing[0]) and is_integer_in(thing[1], 1, field[0] - 1)


def _are_weights(field, lot, point, thing):
    """Whether a value has the form of WEIGHTS of a POINT beside a LOT."""
    if not isinstance(thing, tuple) or not all([_is_weight(field, each) for each in thing]):
        return False
    weighed = [each for each, _ in thing]
    if not is_ascending(weighed) or point not in weighed:
        return False
    return all([each == point or each in lot for each in weighed])


def _are_balanced(field, weights, deep):
    """Whether WEIGHTS have the sum 0 with all reduced POWERS of a sum less than deep."""
    places = _places(field)
    factors = [factor for _, factor in weights]
    for powers in points(field):
        if sum(powers) < deep:
            worths = _single_values(field, powers)
            here = [worths[places[each]] for each, _ in weights]
            if sum_of_products(field[0], factors, here) != 0:
                return False
    return True
