"""SYSTEMS, ZEROS and INDICATORS ([20], systems.py)."""

import unittest

from primezeros.errors import BadSystem
from primezeros.polys import values
from primezeros.systems import count, have_alike_zeros, indicator, need_system, one_poly, zeros
from tests.helpers import FIELDS, constant, most_terms, plain_points, plain_reduced, plain_zeros
from tests.helpers import sample_systems, strange_items, strange_values, unknown


def fault(field, thing):
    """The place at which need_system refuses a value, or None."""
    try:
        need_system(field, thing)
    except BadSystem as error:
        return error.place
    return None


class NeedSystem(unittest.TestCase):
    def test_itself_for_every_system(self):
        for field in FIELDS:
            for system in sample_systems(field):
                thing = tuple(list(system))
                self.assertIs(need_system(field, thing), thing)

    def test_one_to_four_things(self):
        for field in FIELDS:
            poly = unknown(field, 0)
            for many in range(1, 5):
                self.assertIsNone(fault(field, (poly,) * many))
            self.assertEqual(fault(field, ()), ())
            self.assertEqual(fault(field, (poly,) * 5), ())
            self.assertEqual(fault(field, (poly,) * 6), ())
            self.assertEqual(fault(field, (None,) * 5), ())

    def test_no_tuple(self):
        for field in ((2, 1), (3, 2), (5, 4)):
            for thing in strange_values() + [[unknown(field, 0)], {0: unknown(field, 0)}]:
                if not isinstance(thing, tuple):
                    self.assertEqual(fault(field, thing), (), repr(thing)[:50])

    def test_tuples_of_other_things(self):
        for field in ((2, 1), (3, 2), (5, 4)):
            for thing in strange_values():
                if isinstance(thing, tuple):
                    place = (0,) if 1 <= len(thing) <= 4 else ()
                    self.assertEqual(fault(field, thing), place, repr(thing)[:50])

    def test_the_first_thing_that_is_no_poly(self):
        for field in FIELDS:
            good = unknown(field, field[1] - 1)
            wrong = strange_items() + [
                [good], good * 2, good[0], (good,), ((good[0][0], 0),), ((good[0][0], field[0]),),
                unknown(field, 0, 31), ((good[0][0] + (0,), 1),),
            ]
            for thing in wrong:
                for number in range(4):
                    for behind in (good, thing, ()):
                        system = (good,) * number + (thing,) + (behind,) * (3 - number)
                        self.assertEqual(fault(field, system), (number,), thing)

    def test_a_degree_below_1(self):
        for field in FIELDS:
            good = unknown(field, 0)
            for thing in [(), constant(field, 1), constant(field, field[0] - 1)]:
                self.assertEqual(fault(field, (thing,)), (0,))
                for number in range(4):
                    system = (good,) * number + (thing,) + (None,) * (3 - number)
                    self.assertEqual(fault(field, system), (number,))
            self.assertIsNone(fault(field, (constant(field, 1) + unknown(field, field[1] - 1),)))

    def test_the_degree_is_not_that_of_the_reduced_form(self):
        for field in FIELDS:
            nowhere = tuple(sorted(unknown(field, 0, 1, field[0] - 1) + unknown(field, 0, field[0])))
            self.assertEqual(plain_reduced(field, nowhere), ())
            self.assertIsNone(fault(field, (nowhere,)))


class Zeros(unittest.TestCase):
    def test_zeros_and_count(self):
        for field in FIELDS:
            for system in sample_systems(field):
                wanted = plain_zeros(field, system)
                told = zeros(field, system)
                self.assertIsInstance(told, tuple)
                self.assertEqual(told, wanted)
                self.assertEqual(count(field, system), len(wanted))
                self.assertIs(type(count(field, system)), int)

    def test_no_zeros_and_all_points(self):
        for field in FIELDS:
            size = field[0] ** field[1]
            nowhere = tuple(sorted(unknown(field, 0, 1, field[0] - 1) + unknown(field, 0, field[0])))
            self.assertEqual(zeros(field, (nowhere,)), plain_points(field))
            self.assertEqual(count(field, (nowhere,)), size)
            self.assertEqual(indicator(field, (nowhere,)), constant(field, 1))
            self.assertEqual(one_poly(field, (nowhere,)), ())
            never = (constant(field, 1) + nowhere,)
            self.assertEqual(zeros(field, never), ())
            self.assertEqual(count(field, never), 0)
            self.assertEqual(indicator(field, never), ())
            self.assertEqual(one_poly(field, never), constant(field, 1))

    def test_the_longest_polys(self):
        for field in ((5, 4), (7, 3)):
            system = (most_terms(field),)
            self.assertEqual(zeros(field, system), plain_zeros(field, system))

    def test_indicator_and_one_poly(self):
        for field in FIELDS:
            every = plain_points(field)
            for system in sample_systems(field):
                held = set(plain_zeros(field, system))
                for poly, at_zeros in ((indicator(field, system), 1), (one_poly(field, system), 0)):
                    wanted = tuple(at_zeros if point in held else 1 - at_zeros for point in every)
                    self.assertEqual(values(field, poly), wanted)
                    self.assertEqual(poly, plain_reduced(field, poly))

    def test_told_results(self):
        self.assertEqual(zeros((3, 1), ((((0,), 2), ((2,), 1)),)), ((1,), (2,)))
        self.assertEqual(indicator((3, 1), ((((0,), 2), ((2,), 1)),)), (((2,), 1),))
        self.assertEqual(one_poly((3, 1), ((((0,), 2), ((2,), 1)),)), (((0,), 1), ((2,), 2)))
        both = ((((0, 1), 1),), (((1, 0), 1),))
        self.assertEqual(zeros((2, 2), both), ((0, 0),))
        self.assertEqual(indicator((2, 2), both), (((0, 0), 1), ((0, 1), 1), ((1, 0), 1), ((1, 1), 1)))

    def test_have_alike_zeros(self):
        for field in FIELDS:
            systems = sample_systems(field)
            told = [plain_zeros(field, system) for system in systems]
            for system, one in zip(systems, told):
                for other, two in zip(systems, told):
                    self.assertIs(have_alike_zeros(field, system, other), one == two)

    def test_alike_to_the_one_poly(self):
        for field in FIELDS:
            for system in sample_systems(field):
                poly = one_poly(field, system)
                if fault(field, (poly,)) is None:
                    self.assertIs(have_alike_zeros(field, system, (poly,)), True)
                    self.assertIs(have_alike_zeros(field, (poly,), system), True)
