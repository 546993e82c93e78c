"""What is a POLY, and the values and degrees of POLYS ([11], polys.py)."""

import unittest

from primezeros.errors import BadPoint, BadPoly
from primezeros.polys import degree, need_poly, value_at, values
from tests.helpers import FIELDS, constant, most_terms, nest, plain_points, plain_values
from tests.helpers import sample_polys, strange_items, strange_values, unknown


def fault(field, thing):
    """The place at which need_poly refuses a value, or None."""
    try:
        need_poly(field, thing)
    except BadPoly as error:
        return error.place
    return None


def small_poly(field):
    """A POLY with a term for each of several POWERS, the first and the last ones among them."""
    every = plain_points(field)
    chosen = sorted({every[0], every[1], every[len(every) // 2], every[-1], (30,) * field[1]})
    return tuple((powers, field[0] - 1) for powers in chosen)


def with_term(poly, number, term):
    return poly[:number] + (term,) + poly[number + 1:]


class NeedPoly(unittest.TestCase):
    def test_itself_for_every_poly(self):
        for field in FIELDS:
            for poly in sample_polys(field):
                thing = tuple(list(poly))
                self.assertIs(need_poly(field, thing), thing)

    def test_no_tuple(self):
        for thing in strange_values():
            if not isinstance(thing, tuple):
                for field in FIELDS:
                    self.assertEqual(fault(field, thing), (), repr(thing)[:50])
        self.assertEqual(fault((2, 1), [((1,), 1)]), ())
        self.assertEqual(fault((2, 1), {((1,), 1): 1}), ())

    def test_tuples_of_other_things(self):
        for thing in strange_values():
            if isinstance(thing, tuple) and len(thing) <= 700:
                self.assertEqual(fault((2, 1), thing), (0,), repr(thing)[:50])
            elif isinstance(thing, tuple):
                self.assertEqual(fault((2, 1), thing), ())

    def test_at_most_700_terms(self):
        for field in FIELDS:
            if 31 ** field[1] < 701:
                continue
            self.assertEqual(len(most_terms(field)), 700)
            self.assertIsNone(fault(field, most_terms(field)))
            self.assertEqual(fault(field, most_terms(field, 701)), ())
            self.assertEqual(fault(field, most_terms(field, 900)), ())
            self.assertEqual(fault(field, most_terms(field)[:699] + (None,)), (699,))
            self.assertEqual(fault(field, (None,) + most_terms(field)), ())

    def test_all_terms_of_one_unknown(self):
        for prime in (2, 3, 5, 7):
            self.assertIsNone(fault((prime, 1), tuple(((power,), 1) for power in range(31))))
            self.assertEqual(fault((prime, 1), tuple(((power,), 1) for power in range(32))), (31,))

    def test_a_thing_that_is_no_term(self):
        for field in FIELDS:
            poly = small_poly(field)
            for number in range(len(poly)):
                powers, factor = poly[number]
                wrong = strange_items() + [
                    (), (powers,), (powers, factor, factor), [powers, factor], (factor, powers),
                    (powers, None), ((powers, factor),), powers * 3, (list(powers), factor),
                ]
                for thing in wrong:
                    self.assertEqual(fault(field, with_term(poly, number, thing)), (number,), thing)

    def test_wrong_powers(self):
        for field in FIELDS:
            poly = small_poly(field)
            for number in range(len(poly)):
                powers, factor = poly[number]
                wrong = [powers[1:], powers + (0,), powers + powers, list(powers), (powers,), None, "1" * field[1]]
                for at in range(field[1]):
                    for item in strange_items():
                        wrong.append(powers[:at] + (item,) + powers[at + 1:])
                for thing in wrong:
                    found = fault(field, with_term(poly, number, (thing, factor)))
                    self.assertEqual(found, (number,), thing)

    def test_powers_of_30_and_31(self):
        for field in FIELDS:
            for at in range(field[1]):
                self.assertIsNone(fault(field, unknown(field, at, 30)))
                self.assertEqual(fault(field, unknown(field, at, 31)), (0,))
                self.assertEqual(fault(field, unknown(field, at, -1)), (0,))

    def test_wrong_factors(self):
        for field in FIELDS:
            poly = small_poly(field)
            for number in range(len(poly)):
                for thing in strange_items() + [0, field[0], field[0] + 1, -field[0], nest(45)]:
                    found = fault(field, with_term(poly, number, (poly[number][0], thing)))
                    self.assertEqual(found, (number,), thing)
            for factor in range(1, field[0]):
                self.assertIsNone(fault(field, constant(field, factor)))

    def test_powers_that_are_not_greater(self):
        for field in FIELDS:
            poly = small_poly(field)
            for number in range(1, len(poly)):
                for ahead in range(number):
                    again = (poly[ahead][0], 1)
                    self.assertEqual(fault(field, with_term(poly, number, again)), (number,))
                    longer = poly[:number] + (again,) + poly[number:]
                    self.assertEqual(fault(field, longer), (number,))
            self.assertEqual(fault(field, poly[::-1]), (1,))
        self.assertEqual(fault((3, 1), (((1,), 1), ((1,), 2))), (1,))
        self.assertEqual(fault((3, 1), (((1,), 1), ((3,), 1), ((2,), 1))), (2,))
        self.assertEqual(fault((3, 2), (((1, 0), 1), ((0, 5), 1))), (1,))

    def test_the_first_of_several_faults(self):
        good = ((1,), 1)
        self.assertEqual(fault((3, 1), (good, good, None)), (1,))
        self.assertEqual(fault((3, 1), (None, good, good)), (0,))
        self.assertEqual(fault((3, 1), (good, ((2,), 0), ((1,), 1))), (1,))


class Values(unittest.TestCase):
    def test_values_at_all_points(self):
        for field in FIELDS:
            for poly in sample_polys(field):
                if len(poly) * field[0] ** field[1] > 60000:
                    continue
                told = values(field, poly)
                self.assertIsInstance(told, tuple)
                self.assertEqual(told, plain_values(field, poly), (field, poly))

    def test_values_of_the_longest_polys(self):
        for field in ((2, 2), (3, 4), (5, 4), (7, 3)):
            poly = most_terms(field)
            self.assertEqual(values(field, poly), plain_values(field, poly))

    def test_value_at(self):
        for field in FIELDS:
            every = plain_points(field)
            for poly in sample_polys(field):
                wanted = values(field, poly)
                step = 1 if len(every) * len(poly) < 2000 else len(every) // 3
                for at in range(0, len(every), step):
                    self.assertEqual(value_at(field, poly, every[at]), wanted[at])

    def test_the_power_0_of_the_item_0(self):
        for field in FIELDS:
            nought = (0,) * field[1]
            for rest in range(field[0]):
                self.assertEqual(value_at(field, constant(field, rest), nought), rest)
                self.assertEqual(values(field, constant(field, rest)), (rest,) * field[0] ** field[1])
        self.assertEqual(value_at((3, 2), (((0, 1), 2),), (0, 2)), 1)
        self.assertEqual(value_at((3, 2), (((1, 0), 2),), (0, 2)), 0)

    def test_the_empty_poly_is_0(self):
        for field in FIELDS:
            self.assertEqual(values(field, ()), (0,) * field[0] ** field[1])
            self.assertEqual(value_at(field, (), (0,) * field[1]), 0)

    def test_told_values(self):
        self.assertEqual(values((3, 1), (((1,), 1), ((2,), 2))), (0, 0, 1))
        self.assertEqual(values((7, 1), (((30,), 3),)), (0, 3, 3, 3, 3, 3, 3))
        self.assertEqual(values((2, 2), (((0, 1), 1), ((1, 0), 1))), (0, 1, 1, 0))
        self.assertEqual(value_at((5, 2), (((1, 2), 3),), (2, 4)), 1)

    def test_wrong_points(self):
        for field in FIELDS:
            right = (field[0] - 1,) * field[1]
            self.assertEqual(value_at(field, (), right), 0)
            wrong = strange_items() + [right[1:], right + (0,), list(right), (right,), {1: right}]
            for at in range(field[1]):
                for item in strange_items() + [field[0]]:
                    wrong.append(right[:at] + (item,) + right[at + 1:])
            for thing in wrong:
                if field[1] == 1 and thing == (1,) and type(thing[0]) is int:
                    continue
                with self.assertRaises(BadPoint) as caught:
                    value_at(field, (), thing)
                self.assertIs(caught.exception.value, thing)


class Degree(unittest.TestCase):
    def test_the_greatest_sum(self):
        for field in FIELDS:
            for poly in sample_polys(field):
                wanted = max((sum(powers) for powers, _ in poly), default=-1)
                self.assertEqual(degree(field, poly), wanted)

    def test_edges(self):
        for field in FIELDS:
            self.assertEqual(degree(field, ()), -1)
            self.assertEqual(degree(field, constant(field, 1)), 0)
            self.assertEqual(degree(field, (((30,) * field[1], 1),)), 30 * field[1])

    def test_not_the_last_term(self):
        self.assertEqual(degree((2, 2), (((0, 5), 1), ((1, 0), 1))), 5)
        self.assertEqual(degree((2, 2), (((0, 0), 1), ((2, 2), 1), ((3, 0), 1))), 4)
