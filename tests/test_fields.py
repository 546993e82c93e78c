"""FIELDS and POINTS ([1], [10], fields.py)."""

import unittest

from primezeros.errors import BadField
from primezeros.fields import need_field, points
from tests.helpers import FIELDS, nest, plain_points, strange_items, strange_values


def fault(thing):
    """The place at which need_field refuses a value, or None."""
    try:
        need_field(thing)
    except BadField as error:
        return error.place
    return None


class NeedField(unittest.TestCase):
    def test_itself_for_every_field(self):
        self.assertEqual(len(FIELDS), 15)
        for pair in FIELDS:
            thing = tuple(list(pair))
            self.assertIs(need_field(thing), thing)

    def test_all_pairs_near_the_bounds(self):
        for prime in range(-8, 20):
            for many in range(-6, 14):
                if prime not in (2, 3, 5, 7):
                    place = (0,)
                elif not 1 <= many <= 4:
                    place = (1,)
                elif prime ** many > 700:
                    place = ()
                else:
                    place = None
                self.assertEqual(fault((prime, many)), place, (prime, many))

    def test_seven_and_four_are_too_many_points(self):
        self.assertEqual(fault((7, 4)), ())
        self.assertIsNone(fault((7, 3)))
        self.assertIsNone(fault((5, 4)))

    def test_no_pair(self):
        for thing in strange_values() + [(), (2,), (2, 1, 1), [2, 1], "21", {2: 1, 1: 2}, {2, 1}]:
            if isinstance(thing, tuple) and len(thing) == 2:
                continue
            self.assertEqual(fault(thing), (), repr(thing)[:50])

    def test_pairs_of_other_things(self):
        for thing in strange_items() + [nest(48, 2), nest(48, (2, 1)), 0, 4, 6, 8, 9, 11]:
            self.assertEqual(fault((thing, 1)), (0,))
            self.assertEqual(fault((thing, thing)), (0,))
            self.assertEqual(fault((thing, 99)), (0,))
        for thing in strange_items() + [nest(48, 2), 0, 5, 6, 99]:
            for prime in (2, 3, 5, 7):
                self.assertEqual(fault((prime, thing)), (1,))

    def test_true_and_false_are_no_integers(self):
        self.assertEqual(fault((2, True)), (1,))
        self.assertEqual(fault((7, False)), (1,))
        self.assertEqual(fault((True, 1)), (0,))
        self.assertEqual(fault((False, True)), (0,))


class Points(unittest.TestCase):
    def test_all_points_ascending(self):
        for field in FIELDS:
            told = points(field)
            self.assertIsInstance(told, tuple)
            self.assertEqual(told, plain_points(field))
            self.assertEqual(len(told), field[0] ** field[1])
            self.assertEqual(list(told), sorted(told))

    def test_small_ones(self):
        self.assertEqual(points((2, 1)), ((0,), (1,)))
        self.assertEqual(points((2, 2)), ((0, 0), (0, 1), (1, 0), (1, 1)))

    def test_a_wrong_field(self):
        for thing, place in ((None, ()), ((4, 1), (0,)), ((3, 0), (1,)), ((7, 4), ()), ([2, 1], ())):
            with self.assertRaises(BadField) as caught:
                points(thing)
            self.assertEqual(caught.exception.place, place)
