"""LOTS, the depth of a POINT beside them, and PAPERS on it ([30], hidden.py)."""

import itertools
import random
import unittest

from primezeros.errors import BadField, BadLot, BadPaper, BadPoint, TooGreat
from primezeros.hidden import check_depth, depth, depth_paper
from primezeros.polys import need_poly
from tests.helpers import FIELDS, constant, most_terms, nest, plain_degree, plain_points, plain_value
from tests.helpers import plain_values, plain_zeros, sample_systems, strange_items, strange_values, unknown

SMALL = tuple(field for field in FIELDS if field[0] ** field[1] <= 130)
GREAT = tuple(field for field in FIELDS if field[0] ** field[1] > 130)


def lots_and_points(field):
    """LOTS of none, one, some and all other POINTS, each with a POINT beside it. The same for each call."""
    every = plain_points(field)
    source = random.Random(field[0] * 10 + field[1])
    pairs = []
    for point in {every[0], every[-1], source.choice(every)}:
        others = tuple(each for each in every if each != point)
        pairs += [((), point), (others[:1], point), (others[-1:], point), (others, point)]
        pairs += [(others[1:], point), (others[:-1], point)]
        for _ in range(6):
            some = source.sample(others, source.randint(1, len(others)))
            pairs.append((tuple(sorted(some)), point))
    for system in sample_systems(field)[-5:]:
        held = plain_zeros(field, system)
        beside = [each for each in every if each not in held]
        if beside:
            pairs.append((held, source.choice(beside)))
    return pairs


def is_parting(field, lot, point, poly):
    """Whether a POLY is 0 on a LOT, but not at a POINT."""
    return plain_value(field, poly, point) != 0 and not any(plain_value(field, poly, each) for each in lot)


def have_the_form(field, lot, point, weights):
    """Whether WEIGHTS have their form, by the words of the document."""
    every = plain_points(field)
    if type(weights) is not tuple:
        return False
    for each in weights:
        if type(each) is not tuple or len(each) != 2 or type(each[0]) is not tuple:
            return False
        if any(type(item) is not int for item in each[0]) or each[0] not in every:
            return False
        if type(each[1]) is not int or not 0 < each[1] < field[0]:
            return False
        if each[0] != point and each[0] not in lot:
            return False
    told = [each[0] for each in weights]
    return list(weights) == sorted(weights) and len(set(told)) == len(told) and point in told


def are_balanced(field, weights, deep):
    """Whether the sums of WEIGHTS are 0 for all POWERS with a sum less than deep."""
    for powers in plain_points(field):
        if sum(powers) < deep:
            if sum(by * plain_value(field, ((powers, 1),), each) for each, by in weights) % field[0]:
                return False
    return True


def plain_check(field, lot, point, poly, weights):
    """The depth that a paper of a POLY tells, or the word with which it is refused."""
    if not is_parting(field, lot, point, poly):
        return "poly"
    deep = plain_degree(poly)
    if have_the_form(field, lot, point, weights) and are_balanced(field, weights, deep):
        return deep
    return "weights"


def told(field, lot, point, paper):
    """What check_depth tells, or the word with which it refuses."""
    try:
        return check_depth(field, lot, point, paper)
    except BadPaper as error:
        return error.word


class Depth(unittest.TestCase):
    def test_papers_hold(self):
        for field in SMALL:
            for lot, point in lots_and_points(field):
                paper = depth_paper(field, lot, point)
                self.assertIs(type(paper), tuple)
                poly, weights = paper
                self.assertIs(need_poly(field, poly), poly)
                self.assertTrue(is_parting(field, lot, point, poly), (field, lot, point))
                self.assertTrue(have_the_form(field, lot, point, weights), (field, lot, point))
                self.assertTrue(are_balanced(field, weights, plain_degree(poly)), (field, lot, point))
                deep = depth(field, lot, point)
                self.assertIs(type(deep), int)
                self.assertEqual(deep, plain_degree(poly))
                self.assertEqual(check_depth(field, lot, point, paper), deep)

    def test_the_least_degree_of_all_polys(self):
        source = random.Random(30)
        for field in ((2, 1), (2, 2), (2, 3), (3, 1), (3, 2)):
            every = plain_points(field)
            polys = []
            for factors in itertools.product(range(field[0]), repeat=len(every)):
                if len(every) < 9 or source.random() < 0.05 or sum(map(bool, factors)) <= 3:
                    polys.append(tuple(pair for pair in zip(every, factors) if pair[1]))
            known = [(plain_degree(poly), plain_values(field, poly)) for poly in polys]
            known = sorted(known)
            for _ in range(30):
                chosen = source.sample(range(len(every)), source.randint(1, len(every)))
                at, places = chosen[0], sorted(chosen[1:])
                found = next(
                    (deep for deep, worths in known if worths[at] and not any(worths[k] for k in places)), None)
                deep = depth(field, tuple(every[k] for k in places), every[at])
                if len(every) < 9:
                    self.assertEqual(deep, found)
                elif found is not None:
                    # Not all POLYS of this field were looked at.
                    self.assertLessEqual(deep, found)

    def test_no_points_and_all_others(self):
        for field in SMALL:
            every = plain_points(field)
            for point in every[::1 + len(every) // 6]:
                others = tuple(each for each in every if each != point)
                self.assertEqual(depth(field, (), point), 0)
                self.assertEqual(depth(field, others, point), field[1] * (field[0] - 1))

    def test_one_other_point(self):
        for field in SMALL:
            every = plain_points(field)
            for other in every[1::1 + len(every) // 6]:
                self.assertEqual(depth(field, (other,), every[0]), 1)
                self.assertEqual(depth(field, (every[0],), other), 1)

    def test_told_depths(self):
        self.assertEqual(depth((3, 1), ((0,), (1,)), (2,)), 2)
        self.assertEqual(depth((7, 1), ((1,), (3,), (4,)), (0,)), 3)
        # On a line of two unknowns, the other POINTS of the line count alone.
        line = ((0, 0), (1, 1), (2, 2))
        self.assertEqual(depth((5, 2), line, (3, 3)), 3)
        self.assertEqual(depth((5, 2), line, (3, 4)), 1)
        self.assertEqual(depth((2, 2), ((0, 0), (0, 1), (1, 0)), (1, 1)), 2)
        self.assertEqual(depth((2, 2), ((0, 1), (1, 0)), (1, 1)), 1)
        self.assertEqual(depth((2, 3), ((0, 0, 0), (0, 0, 1), (0, 1, 0)), (0, 1, 1)), 2)

    def test_more_points_hide_no_less(self):
        source = random.Random(31)
        for field in SMALL:
            every = plain_points(field)
            point = source.choice(every)
            order = source.sample([each for each in every if each != point], len(every) - 1)
            deep = 0
            for many in range(0, len(order) + 1, 1 + len(order) // 8):
                more = depth(field, tuple(sorted(order[:many])), point)
                self.assertGreaterEqual(more, deep)
                deep = more


def bent_weights(field, lot, point, weights):
    """Other WEIGHTS, or what is none, each bent in one place."""
    at = [each for each, _ in weights].index(point)
    every = plain_points(field)
    bent = [
        None, (), list(weights), dict(weights), "weights", 1, True, nest(40), len,
        weights[:at] + weights[at + 1:], weights[:at + 1] + weights[at:],
        weights[:at + 1] + ((point, weights[at][1] % (field[0] - 1) + 1),) + weights[at + 1:],
        weights + ((point, 1),), ((point, 1),) + weights, weights + (None,), (None,) + weights,
        weights[at], (weights,), ((point, 1),),
    ]
    if len(weights) > 1:
        bent += [weights[::-1], weights[1:], weights[:-1], weights[1:] + weights[:1]]
    for wrong in [0, field[0], -1, field[0] + weights[at][1], None, True, "1", (1,), [1]]:
        bent.append(weights[:at] + ((point, wrong),) + weights[at + 1:])
    for wrong in [(), (point,), (point, 1, 1), [point, 1], (1, point), (list(point), 1), (point + (0,), 1),
                  ((field[0],) * field[1], 1), ((True,) * field[1], 1), ({1: 1}, 1), (1, 1), point]:
        for number in (0, at, len(weights) - 1):
            bent.append(weights[:number] + (wrong,) + weights[number + 1:])
            bent.append(weights[:number] + (wrong,) + weights[number:])
    for number in {0, at, len(weights) - 1}:
        for by in range(field[0]):
            bent.append(weights[:number] + ((weights[number][0], by),) + weights[number + 1:])
    for other in (every[0], every[-1], every[len(every) // 2]):
        bent.append(tuple(sorted(dict([*weights, (other, 1)]).items())))
    return bent


class CheckDepth(unittest.TestCase):
    def test_another_form(self):
        for field in SMALL:
            lot, point = lots_and_points(field)[-1]
            poly, weights = depth_paper(field, lot, point)
            wrong = strange_values() + [
                (), (poly,), (poly, weights, ()), [poly, weights], {poly: weights}, {0: poly, 1: weights},
            ]
            for thing in wrong:
                if isinstance(thing, tuple) and len(thing) == 2:
                    self.assertEqual(told(field, lot, point, thing), "poly")
                else:
                    self.assertEqual(told(field, lot, point, thing), "form", repr(thing)[:50])

    def test_what_is_no_such_poly(self):
        for field in SMALL:
            for lot, point in lots_and_points(field)[::4]:
                poly, weights = depth_paper(field, lot, point)
                wrong = strange_values() + strange_items() + [
                    (), list(poly), poly + poly[-1:], poly[:-1] + (None,), poly + (((31,) * field[1], 1),),
                    poly[:-1] + ((poly[-1][0], field[0]),), poly[:-1] + ((poly[-1][0], 0),), poly[-1], (poly,),
                    poly[::-1] if len(poly) > 1 else None, most_terms(field, 701) if field[1] > 2 else None,
                ]
                for thing in wrong:
                    for beside in (weights, (), None):
                        self.assertEqual(told(field, lot, point, (thing, beside)), "poly", repr(thing)[:50])

    def test_polys_with_other_values(self):
        for field in SMALL:
            every = plain_points(field)
            for lot, point in lots_and_points(field)[::3]:
                poly, weights = depth_paper(field, lot, point)
                others = [constant(field, 1)] + [unknown(field, number) for number in range(field[1])]
                others += [(term,) for term in poly] + [poly[:-1], poly[1:], poly + (((29,) * field[1], 1),)]
                others += [tuple((powers, 1) for powers in every)]
                for other in others:
                    wanted = plain_check(field, lot, point, other, weights)
                    self.assertEqual(told(field, lot, point, (other, weights)), wanted, (field, lot, point, other))
                    if wanted == "poly":
                        self.assertEqual(told(field, lot, point, (other, None)), "poly")

    def test_not_0_at_one_point_of_the_lot(self):
        for field in SMALL:
            every = plain_points(field)
            for number in {1, len(every) // 2, len(every) - 1}:
                lot = every[:number]
                poly, weights = depth_paper(field, lot, every[number])
                self.assertEqual(told(field, lot, every[number], (poly, weights)), plain_degree(poly))
                for at in {0, number // 2, number - 1}:
                    fewer = lot[:at] + lot[at + 1:]
                    other, _ = depth_paper(field, tuple(sorted(fewer + (every[number],))), every[at])
                    # It is 0 at the POINT, and not at one of the LOT.
                    self.assertEqual(told(field, lot, every[number], (other, weights)), "poly")
                    # It is 0 on all of the LOT but for one.
                    more, _ = depth_paper(field, fewer, every[number])
                    wanted = plain_check(field, lot, every[number], more, weights)
                    self.assertEqual(told(field, lot, every[number], (more, weights)), wanted)

    def test_weights_times_another_rest(self):
        for field in SMALL:
            for lot, point in lots_and_points(field)[::3]:
                poly, weights = depth_paper(field, lot, point)
                for by in range(1, field[0]):
                    times = tuple((each, by * factor % field[0]) for each, factor in weights)
                    self.assertEqual(told(field, lot, point, (poly, times)), plain_degree(poly))
                    other = tuple((powers, by * factor % field[0]) for powers, factor in poly)
                    self.assertEqual(told(field, lot, point, (other, times)), plain_degree(poly))

    def test_bent_weights(self):
        for field in SMALL:
            seen = set()
            pairs = lots_and_points(field)
            for lot, point in pairs if field[0] ** field[1] < 30 else pairs[::5]:
                poly, weights = depth_paper(field, lot, point)
                for bent in bent_weights(field, lot, point, weights):
                    wanted = plain_check(field, lot, point, poly, bent)
                    self.assertEqual(told(field, lot, point, (poly, bent)), wanted, (field, lot, point, bent))
                    seen.add(wanted)
            self.assertIn("weights", seen)
            self.assertTrue(any(type(each) is int for each in seen))

    def test_each_bend_is_refused(self):
        field, lot, point = (3, 1), ((0,), (1,)), (2,)
        poly = (((1,), 2), ((2,), 1))
        right = (((0,), 1), ((1,), 1), ((2,), 1))
        self.assertEqual(told(field, lot, point, (poly, right)), 2)
        bent = (
            right[:2], right + right[2:], right[:1] + right[1:2] + right[1:], right[::-1],
            (right[1], right[0], right[2]), (((0,), 0),) + right[1:], (((0,), 2),) + right[1:],
            right[:2] + (((2,), 2),), right[1:], right[2:], (), right[:2] + (((2,), 0),),
        )
        for weights in bent:
            self.assertEqual(told(field, lot, point, (poly, weights)), "weights")
        # The sums with the power 0 alone are 0, but those with the power 1 are not.
        self.assertEqual(told(field, lot, point, (poly, (((0,), 2), ((2,), 1)))), "weights")
        # A POINT that is neither of the LOT nor the told one, though the sums are 0.
        self.assertEqual(told(field, lot[:1], point, ((((1,), 1),), (((0,), 2), ((2,), 1)))), 1)
        self.assertEqual(told(field, lot[:1], point, ((((1,), 1),), right)), "weights")

    def test_a_degree_that_is_too_great(self):
        for field in SMALL:
            prime = field[0]
            for lot, point in lots_and_points(field)[::3]:
                poly, weights = depth_paper(field, lot, point)
                deep = plain_degree(poly)
                table = dict(poly)
                for power, by in ((30, 1), (30 - (prime - 1), prime - 1)):
                    # The two powers are alike, so that no value changes.
                    table[(power,) + (0,) * (field[1] - 1)] = by
                other = tuple(sorted(table.items()))
                self.assertEqual(plain_values(field, other), plain_values(field, poly))
                self.assertEqual(told(field, lot, point, (other, weights)), "weights")
                self.assertEqual(told(field, lot, point, (poly, weights)), deep)

    def test_no_depth_but_0_beside_no_points(self):
        for field in SMALL:
            for point in plain_points(field)[::1 + field[0] ** field[1] // 5]:
                for rest in range(1, field[0]):
                    paper = (constant(field, rest), ((point, rest),))
                    self.assertEqual(told(field, (), point, paper), 0)
                    self.assertEqual(told(field, (), point, (constant(field, rest), ())), "weights")
                    # This is 1 everywhere, too, but asks for sums that a single weight does not have.
                    more = constant(field, 1) + unknown(field, 0) + unknown(field, 0, field[0], field[0] - 1)
                    self.assertEqual(set(plain_values(field, more)), {1})
                    self.assertEqual(told(field, (), point, (more, ((point, rest),))), "weights")


def callers():
    return (depth, depth_paper, lambda field, lot, point: check_depth(field, lot, point, None))


class Refused(unittest.TestCase):
    def test_what_is_no_lot(self):
        for field in FIELDS:
            every = plain_points(field)
            point = every[1]
            wrong = strange_values() + [
                list(every), every[::-1], every + every[-1:], every[:1] * 2, (every[1], every[0]), every[0],
                (None,), ((),), (every[0][1:],), (every[0] + (0,),), (list(every[0]),), ((field[0],) * field[1],),
                ((0,) * (field[1] - 1) + (True,),), ((False,) * field[1],), (every[0], None), (None, every[0]),
                every[:-1] + (None,), every[:2] + (every[1],), (every,), {every[0]: 1}, (every[0], every[1] + (0,)),
            ]
            for function in callers():
                for thing in wrong:
                    for beside in (point, None):
                        with self.assertRaises(BadLot) as caught:
                            function(field, thing, beside)
                        self.assertIs(caught.exception.value, thing)

    def test_what_is_no_point(self):
        for field in FIELDS:
            every = plain_points(field)
            wrong = strange_items() + strange_values() + [
                every[0][1:], every[0] + (0,), list(every[-1]), (every[-1],), {1: 1}, (field[0],) * field[1],
                (0,) * (field[1] - 1) + (True,), (False,) * field[1], (-1,) * field[1],
            ]
            for function in callers():
                for thing in wrong:
                    if thing == (1,) and type(thing[0]) is int and field[1] == 1:
                        continue
                    for lot in ((), every[:1], every):
                        with self.assertRaises(BadPoint) as caught:
                            function(field, lot, thing)
                        self.assertIs(caught.exception.value, thing)

    def test_a_point_of_the_lot(self):
        for field in FIELDS:
            every = plain_points(field)
            for function in callers():
                for lot in (every, every[:1], every[-1:], every[1:]):
                    for at in {0, len(lot) // 2, len(lot) - 1}:
                        thing = tuple(list(lot[at]))
                        with self.assertRaises(BadPoint) as caught:
                            function(field, lot, thing)
                        self.assertIs(caught.exception.value, thing)

    def test_too_great(self):
        self.assertEqual(GREAT, ((5, 4), (7, 3)))
        for field in GREAT:
            every = plain_points(field)
            for function in callers():
                for lot in ((), every[:1], every[:-1]):
                    with self.assertRaises(TooGreat) as caught:
                        function(field, lot, every[-1])
                    self.assertEqual(caught.exception.most, 130)
            paper = (constant(field, 1), ((every[-1], 1),))
            for thing in (paper, None, (), ((), ()), (paper[0], ())):
                with self.assertRaises(TooGreat):
                    check_depth(field, (), every[-1], thing)

    def test_125_points_are_not_too_great(self):
        field = (5, 3)
        every = plain_points(field)
        self.assertEqual(len(every), 125)
        self.assertEqual(depth(field, every[:3], every[-1]), 1)

    def test_the_field_ahead_of_all(self):
        for function in callers():
            for thing, place in ((None, ()), ((4, 1), (0,)), ((3, 0), (1,)), ((7, 4), ())):
                with self.assertRaises(BadField) as caught:
                    function(thing, None, None)
                self.assertEqual(caught.exception.place, place)

    def test_the_paper_behind_all(self):
        lot, point = ((0,), (1,)), (2,)
        for thing in (None, (), ((), ()), 1):
            with self.assertRaises(BadLot):
                check_depth((3, 1), lot[::-1], point, thing)
            with self.assertRaises(BadPoint):
                check_depth((3, 1), lot, (1,), thing)
            with self.assertRaises(BadPaper):
                check_depth((3, 1), lot, point, thing)
