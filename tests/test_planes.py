"""PLANES and what they cover ([35], planes.py)."""

import itertools
import random
import unittest

from primezeros.errors import BadField, BadPlanes
from primezeros.planes import cover, is_cover, uncovered
from tests.helpers import FIELDS, nest, plain_points, strange_items, strange_values


def is_plane(field, thing):
    factors, rest = thing
    return len(factors) == field[1] and any(factors) and 0 < rest < field[0]


def covers(field, plane, point):
    return sum(one * two for one, two in zip(plane[0], point)) % field[0] == plane[1]


def plain_uncovered(field, planes):
    for point in plain_points(field)[1:]:
        if not any(covers(field, plane, point) for plane in planes):
            return point
    return None


def all_planes(field):
    every = itertools.product(plain_points(field)[1:], range(1, field[0]))
    return list(every)


def fault(field, planes):
    """The place at which uncovered refuses PLANES, or None."""
    try:
        uncovered(field, planes)
    except BadPlanes as error:
        return error.place
    return None


class Cover(unittest.TestCase):
    def test_as_many_as_are_needed(self):
        for field in FIELDS:
            planes = cover(field)
            self.assertIsInstance(planes, tuple)
            self.assertEqual(len(planes), field[1] * (field[0] - 1))
            for plane in planes:
                self.assertTrue(is_plane(field, plane))
            self.assertIsNone(plain_uncovered(field, planes))

    def test_none_can_be_left_out(self):
        for field in FIELDS:
            planes = cover(field)
            self.assertIsNone(uncovered(field, planes))
            self.assertIs(is_cover(field, planes), True)
            for at in range(len(planes)):
                fewer = planes[:at] + planes[at + 1:]
                wanted = plain_uncovered(field, fewer)
                self.assertIsNotNone(wanted)
                self.assertEqual(uncovered(field, fewer), wanted)
                self.assertIs(is_cover(field, fewer), False)

    def test_a_wrong_field(self):
        for thing, place in ((None, ()), ((4, 1), (0,)), ((3, 0), (1,)), ((7, 4), ())):
            for call in (lambda: cover(thing), lambda: uncovered(thing, None), lambda: is_cover(thing, None)):
                with self.assertRaises(BadField) as caught:
                    call()
                self.assertEqual(caught.exception.place, place)


class Uncovered(unittest.TestCase):
    def test_no_planes(self):
        for field in FIELDS:
            self.assertEqual(uncovered(field, ()), (0,) * (field[1] - 1) + (1,))

    def test_some_planes(self):
        source = random.Random(35)
        for field in FIELDS:
            every = all_planes(field)
            for many in (1, 2, 3, 5, 8, 13, 30, 59, 60):
                planes = tuple(source.choice(every) for _ in range(many))
                told = uncovered(field, planes)
                self.assertEqual(told, plain_uncovered(field, planes))
                self.assertIs(is_cover(field, planes), told is None)

    def test_fewer_planes_leave_a_point(self):
        for field in ((2, 1), (2, 2), (2, 3), (3, 1), (3, 2), (5, 1)):
            for many in range(field[1] * (field[0] - 1)):
                for planes in itertools.combinations(all_planes(field), many):
                    self.assertIsNotNone(uncovered(field, planes))

    def test_each_plane_alone(self):
        for field in ((2, 4), (3, 2), (5, 2), (7, 1)):
            for plane in all_planes(field):
                self.assertEqual(uncovered(field, (plane,)), plain_uncovered(field, (plane,)))

    def test_told_points(self):
        self.assertEqual(uncovered((3, 2), (((0, 1), 1), ((0, 1), 2))), (1, 0))
        self.assertEqual(uncovered((3, 2), (((1, 0), 1), ((1, 0), 2))), (0, 1))
        self.assertEqual(uncovered((3, 2), (((1, 1), 1), ((1, 1), 2))), (1, 2))
        self.assertEqual(uncovered((5, 1), (((2,), 1), ((1,), 1), ((4,), 1))), (2,))
        self.assertEqual(uncovered((2, 2), (((1, 1), 1),)), (1, 1))

    def test_sixty_planes_and_sixty_one(self):
        for field in FIELDS:
            plane = cover(field)[0]
            self.assertIsNone(fault(field, (plane,) * 60))
            self.assertEqual(fault(field, (plane,) * 61), ())
            self.assertEqual(fault(field, (plane,) * 500), ())
            self.assertEqual(fault(field, (None,) * 61), ())
            self.assertEqual(fault(field, (plane,) * 59 + (None,)), (59,))
            self.assertEqual(uncovered(field, (plane,) * 60), plain_uncovered(field, (plane,)))


class NoPlanes(unittest.TestCase):
    def test_no_tuple(self):
        for field in FIELDS:
            wrong = [each for each in strange_values() if not isinstance(each, tuple)]
            for thing in wrong + [list(cover(field)), {cover(field)[0]: 1}]:
                self.assertEqual(fault(field, thing), (), repr(thing)[:50])
                self.assertIs(is_cover(field, thing), False)

    def test_tuples_of_other_things(self):
        for field in FIELDS:
            for thing in strange_values():
                if isinstance(thing, tuple):
                    place = () if len(thing) > 60 else (0,)
                    self.assertEqual(fault(field, thing), place, repr(thing)[:50])
                    self.assertIs(is_cover(field, thing), False)

    def wrong_things(self, field):
        prime, many = field
        factors = (0,) * (many - 1) + (1,)
        wrong = strange_items() + [
            (factors,), (factors, 1, 1), [factors, 1], (1, factors), factors, ((factors, 1),), nest(45, 1),
            (factors[1:], 1), (factors + (0,), 1), (factors + factors, 1), (list(factors), 1), ((0,) * many, 1),
            ((prime,) * many, 1), ("1" * many, 1), (None, 1), ({1: 1}, 1), (1, 1),
            (factors, 0), (factors, prime), (factors, -1), (factors, prime + 1), (factors, (1,)),
        ]
        wrong += [(factors, item) for item in strange_items()]
        for at in range(many):
            for item in strange_items() + [prime, prime + 1]:
                # Another item that is not 0 stands beside, so that it is not all 0 that is refused.
                wrong.append(((1,) * at + (item,) + (1,) * (many - 1 - at), 1))
        return wrong

    def test_the_first_thing_at_each_place(self):
        for field in FIELDS:
            planes = cover(field)
            for thing in self.wrong_things(field):
                for number in {0, 1, len(planes) - 1, len(planes)}:
                    for behind in ((), (None,), planes, (thing,)):
                        given = planes[:number] + (thing,) + behind
                        at = min(number, len(planes))
                        self.assertEqual(fault(field, given), (at,), thing)

    def test_they_are_no_cover(self):
        for field in FIELDS:
            planes = cover(field)
            for thing in self.wrong_things(field):
                self.assertIs(is_cover(field, planes + (thing,)), False)
                self.assertIs(is_cover(field, (thing,) + planes), False)


class IsCover(unittest.TestCase):
    def test_of_any_value(self):
        for field in FIELDS:
            for thing in strange_values() + strange_items():
                self.assertIs(is_cover(field, thing), False)
            self.assertIs(is_cover(field, ()), False)
            self.assertIs(is_cover(field, list(cover(field))), False)
            self.assertIs(is_cover(field, cover(field)[0]), False)
            self.assertIs(is_cover(field, (cover(field),)), False)

    def test_of_any_number_of_planes(self):
        for field in FIELDS:
            planes = cover(field)
            last = planes[-1]
            for many in (61, 200, 1500):
                self.assertIs(is_cover(field, (last,) * many + planes), True)
                self.assertIs(is_cover(field, planes + (last,) * many), True)
                self.assertIs(is_cover(field, (last,) * many + planes[:-1]), True)
                self.assertIs(is_cover(field, (last,) * many + planes[1:]), len(planes) == 1)
                self.assertIs(is_cover(field, (last,) * many + (None,)), False)

    def test_all_planes(self):
        for field in ((2, 1), (2, 4), (3, 3), (5, 2), (7, 2)):
            every = tuple(all_planes(field))
            self.assertIs(is_cover(field, every), True)
            self.assertIs(is_cover(field, every[::-1]), True)
            alone = plain_points(field)[-1]
            but = tuple(plane for plane in every if not covers(field, plane, alone))
            self.assertIs(is_cover(field, but), False)

    def test_planes_of_another_field(self):
        self.assertIs(is_cover((3, 2), cover((3, 1))), False)
        self.assertIs(is_cover((3, 1), cover((3, 2))), False)
        self.assertIs(is_cover((3, 1), cover((5, 1))), False)
        self.assertIs(is_cover((5, 1), cover((3, 1))), False)
