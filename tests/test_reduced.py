"""Reduced forms, sums, products, and POLYS that are alike ([12], polys.py)."""

import random
import unittest

from primezeros.errors import BadNumber
from primezeros.polys import added, are_alike, degree, multiplied, parting_point, poly_of, reduced, values
from tests.helpers import FIELDS, constant, most_terms, plain_points, plain_product, plain_reduced, plain_sum
from tests.helpers import plain_value, plain_values, random_poly, sample_polys, strange_items
from tests.helpers import strange_values, unknown


def is_reduced(field, poly):
    """Whether a value has the form of a reduced POLY."""
    every = plain_points(field)
    return (
        isinstance(poly, tuple)
        and all(isinstance(term, tuple) and len(term) == 2 for term in poly)
        and all(powers in every and 1 <= factor < field[0] for powers, factor in poly)
        and all(one[0] < two[0] for one, two in zip(poly, poly[1:]))
    )


def chosen_polys(field):
    """POLYS few enough to be paired with one another."""
    polys = sample_polys(field)
    return polys[:4] + polys[5:12] + polys[-5:-1]


class Reduced(unittest.TestCase):
    def test_the_reduced_form(self):
        for field in FIELDS:
            for poly in sample_polys(field):
                told = reduced(field, poly)
                self.assertTrue(is_reduced(field, told))
                self.assertEqual(told, plain_reduced(field, poly), (field, poly))
                self.assertLessEqual(degree(field, told), degree(field, poly))
                self.assertEqual(reduced(field, told), told)
                self.assertEqual(values(field, told), values(field, poly))

    def test_powers_of_p_and_more(self):
        for field in FIELDS:
            prime = field[0]
            for power in range(31):
                lower = power
                while lower >= prime:
                    lower -= prime - 1
                for number in range(field[1]):
                    wanted = unknown(field, number, lower)
                    self.assertEqual(reduced(field, unknown(field, number, power)), wanted)

    def test_terms_that_fall_together(self):
        self.assertEqual(reduced((3, 1), (((1,), 1), ((3,), 2))), ())
        self.assertEqual(reduced((3, 1), (((1,), 1), ((3,), 1))), (((1,), 2),))
        self.assertEqual(reduced((3, 1), (((1,), 2), ((3,), 2), ((5,), 1))), (((1,), 2),))
        self.assertEqual(reduced((3, 1), (((0,), 1), ((2,), 1))), (((0,), 1), ((2,), 1)))
        self.assertEqual(reduced((2, 2), (((1, 2), 1), ((2, 1), 1), ((3, 3), 1))), (((1, 1), 1),))
        self.assertEqual(reduced((5, 2), (((0, 5), 1), ((4, 0), 1))), (((0, 1), 1), ((4, 0), 1)))

    def test_an_order_that_changes(self):
        self.assertEqual(reduced((3, 2), (((1, 0), 1), ((3, 1), 1), ((4, 0), 2))),
                         (((1, 0), 1), ((1, 1), 1), ((2, 0), 2)))
        self.assertEqual(reduced((3, 2), (((2, 0), 1), ((3, 0), 1))), (((1, 0), 1), ((2, 0), 1)))

    def test_700_terms(self):
        for field in FIELDS:
            poly = most_terms(field)
            self.assertEqual(reduced(field, poly), plain_reduced(field, poly))

    def test_constants(self):
        for field in FIELDS:
            for rest in range(field[0]):
                self.assertEqual(reduced(field, constant(field, rest)), constant(field, rest))


class Sums(unittest.TestCase):
    def test_sums_and_products(self):
        for field in FIELDS:
            for poly in chosen_polys(field):
                for other in chosen_polys(field):
                    if len(poly) * len(other) > 4000:
                        continue
                    one = added(field, poly, other)
                    self.assertTrue(is_reduced(field, one))
                    self.assertEqual(one, plain_sum(field, poly, other))
                    two = multiplied(field, poly, other)
                    self.assertTrue(is_reduced(field, two))
                    self.assertEqual(two, plain_product(field, poly, other))

    def test_values_of_sums_and_products(self):
        for field in FIELDS:
            prime = field[0]
            polys = chosen_polys(field)
            for poly, other in zip(polys, polys[1:]):
                pairs = list(zip(plain_values(field, poly[:50]), plain_values(field, other[:50])))
                self.assertEqual(values(field, added(field, poly[:50], other[:50])),
                                 tuple((one + two) % prime for one, two in pairs))
                self.assertEqual(values(field, multiplied(field, poly[:50], other[:50])),
                                 tuple(one * two % prime for one, two in pairs))

    def test_with_the_empty_poly_and_constants(self):
        for field in FIELDS:
            for poly in sample_polys(field):
                self.assertEqual(added(field, poly, ()), reduced(field, poly))
                self.assertEqual(added(field, (), poly), reduced(field, poly))
                self.assertEqual(multiplied(field, poly, ()), ())
                self.assertEqual(multiplied(field, (), poly), ())
                self.assertEqual(multiplied(field, constant(field, 1), poly), reduced(field, poly))
                less = multiplied(field, poly, constant(field, field[0] - 1))
                self.assertEqual(added(field, poly, less), ())

    def test_700_terms(self):
        for field in FIELDS:
            poly = most_terms(field)
            twice = plain_sum(field, poly, poly)
            self.assertEqual(added(field, poly, poly), twice)
            if field[0] == 2:
                self.assertEqual(twice, ())
            small = plain_reduced(field, poly)
            self.assertEqual(multiplied(field, poly, unknown(field, 0, 30)),
                             plain_product(field, small, unknown(field, 0, 30)))

    def test_squares(self):
        for field in FIELDS:
            for poly in chosen_polys(field):
                square = multiplied(field, poly, poly)
                wanted = tuple(value * value % field[0] for value in values(field, poly))
                self.assertEqual(values(field, square), wanted)
                if field[0] == 2:
                    self.assertEqual(square, reduced(field, poly))
        self.assertEqual(multiplied((3, 1), (((0,), 1), ((1,), 1)), (((0,), 1), ((1,), 1))),
                         (((0,), 1), ((1,), 2), ((2,), 1)))
        self.assertEqual(multiplied((2, 2), (((0, 1), 1), ((1, 0), 1)), (((0, 1), 1), ((1, 0), 1))),
                         (((0, 1), 1), ((1, 0), 1)))


class Alike(unittest.TestCase):
    def test_all_pairs(self):
        for field in FIELDS:
            polys = chosen_polys(field)
            told = [plain_values(field, poly) for poly in polys]
            for poly, one in zip(polys, told):
                for other, two in zip(polys, told):
                    alike = are_alike(field, poly, other)
                    self.assertIs(alike, one == two)
                    differ = [at for at, pair in enumerate(zip(one, two)) if pair[0] != pair[1]]
                    wanted = plain_points(field)[differ[0]] if differ else None
                    self.assertEqual(parting_point(field, poly, other), wanted)

    def test_alike_its_reduced_form(self):
        for field in FIELDS:
            for poly in sample_polys(field):
                self.assertIs(are_alike(field, poly, reduced(field, poly)), True)
                self.assertIsNone(parting_point(field, reduced(field, poly), poly))

    def test_one_reduced_poly_alone(self):
        for field in ((2, 1), (2, 2), (3, 1)):
            every = plain_points(field)
            polys = []
            for number in range(field[0] ** len(every)):
                factors = [number // field[0] ** at % field[0] for at in range(len(every))]
                polys.append(tuple((powers, c) for powers, c in zip(every, factors) if c))
            for poly in polys:
                for other in polys:
                    self.assertIs(are_alike(field, poly, other), poly == other)
            self.assertEqual(len({values(field, poly) for poly in polys}), len(polys))

    def test_each_parting_point(self):
        for field in FIELDS:
            every = plain_points(field)
            for at in range(0, len(every), max(1, len(every) // 30)):
                poly = poly_of(field, tuple(int(k >= at) for k in range(len(every))))
                self.assertEqual(parting_point(field, poly, ()), every[at])
                self.assertEqual(parting_point(field, (), poly), every[at])
                self.assertIs(are_alike(field, (), poly), False)


class PolyOf(unittest.TestCase):
    def test_any_rests(self):
        for field in FIELDS:
            prime, size = field[0], field[0] ** field[1]
            source = random.Random(size)
            lists = [(0,) * size, (1,) * size, (prime - 1,) * size, tuple(k % prime for k in range(size))]
            lists += [tuple(source.randrange(prime) for _ in range(size)) for _ in range(3)]
            lists += [tuple(int(k == at) for k in range(size)) for at in (0, size // 2, size - 1)]
            for rests in lists:
                poly = poly_of(field, rests)
                self.assertTrue(is_reduced(field, poly))
                self.assertEqual(values(field, poly), rests)

    def test_by_the_plain_value(self):
        for field in FIELDS:
            prime, size = field[0], field[0] ** field[1]
            source = random.Random(size + 1)
            rests = tuple(source.randrange(prime) for _ in range(size))
            poly = poly_of(field, rests)
            every = plain_points(field)
            for at in range(0, size, max(1, size // 40)):
                self.assertEqual(plain_value(field, poly, every[at]), rests[at])

    def test_each_small_list(self):
        for field in ((2, 1), (2, 2), (2, 3), (3, 1), (5, 1)):
            size = field[0] ** field[1]
            for number in range(field[0] ** size):
                rests = tuple(number // field[0] ** at % field[0] for at in range(size))
                self.assertEqual(plain_values(field, poly_of(field, rests)), rests)

    def test_back_from_the_values(self):
        for field in FIELDS:
            source = random.Random(field[0])
            polys = sample_polys(field) + [random_poly(source, field, 60, field[0] - 1)]
            for poly in polys:
                self.assertEqual(poly_of(field, values(field, poly)), reduced(field, poly))

    def refuses(self, field, thing):
        with self.assertRaises(BadNumber) as caught:
            poly_of(field, thing)
        self.assertIs(caught.exception.value, thing)

    def test_values_of_other_kinds(self):
        for field in FIELDS:
            for thing in strange_values() + [(), (1,), [0] * field[0] ** field[1], "0" * field[0] ** field[1]]:
                if not (isinstance(thing, tuple) and len(thing) == 1 and field[0] ** field[1] == 1):
                    self.refuses(field, thing)

    def test_a_wrong_item_at_any_place(self):
        for field in FIELDS:
            size = field[0] ** field[1]
            rests = (field[0] - 1,) * size
            wrong = strange_items() + [field[0]]
            for at in range(size):
                self.refuses(field, rests[:at] + (wrong[at % len(wrong)],) + rests[at + 1:])
            for at in (0, 1, size - 1):
                for item in wrong:
                    self.refuses(field, rests[:at] + (item,) + rests[at + 1:])

    def test_one_item_more_or_less(self):
        for field in FIELDS:
            rests = (1,) * field[0] ** field[1]
            poly_of(field, rests)
            self.refuses(field, rests + (0,))
            self.refuses(field, rests[1:])
            self.refuses(field, (rests,))
