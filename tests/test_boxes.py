"""BOXES, rests in them and alive POINTS ([25], boxes.py)."""

import itertools
import random
import unittest

from primezeros.boxes import alive_point, is_promised, rest_in
from primezeros.errors import BadBox, BadField, BadPoly
from primezeros.polys import need_poly
from tests.helpers import FIELDS, constant, most_terms, plain_degree, plain_points, plain_value
from tests.helpers import random_poly, sample_boxes, sample_polys, strange_items, strange_values, unknown


def fits(poly, box):
    return all(power < len(place) for powers, _ in poly for power, place in zip(powers, box))


def fitting_poly(source, field, box):
    """A POLY with several terms that fit a BOX."""
    every = list(itertools.product(*(range(len(place)) for place in box)))
    chosen = sorted(source.sample(every, min(len(every), 6)))
    return tuple((powers, source.randint(1, field[0] - 1)) for powers in chosen)


def some_polys(field):
    """POLYS with few terms, but for the longest."""
    return [poly for poly in sample_polys(field) if len(poly) <= 60] + [most_terms(field, 100)]


class RestIn(unittest.TestCase):
    def check(self, field, poly, box):
        told = rest_in(field, poly, box)
        self.assertIs(need_poly(field, told), told)
        self.assertTrue(fits(told, box), (field, poly, box))
        self.assertLessEqual(plain_degree(told), plain_degree(poly))
        for point in itertools.product(*box):
            wanted = plain_value(field, poly, point)
            self.assertEqual(plain_value(field, told, point), wanted, (field, poly, box))
        if fits(poly, box):
            self.assertEqual(told, poly)

    def test_rests(self):
        for field in FIELDS:
            boxes = sample_boxes(field)
            for number, poly in enumerate(some_polys(field)):
                for at, box in enumerate(boxes):
                    if field[0] ** field[1] <= 81 or (number + at) % 7 == 0:
                        self.check(field, poly, box)

    def test_the_longest_poly_in_the_greatest_box(self):
        for field in FIELDS:
            box = (tuple(range(field[0])),) * field[1]
            told = rest_in(field, most_terms(field), box)
            for point in plain_points(field)[::9]:
                self.assertEqual(
                    plain_value(field, told, point), plain_value(field, most_terms(field), point))

    def test_all_powers_up_to_30(self):
        for prime in (2, 3, 5, 7):
            for many in range(1, prime + 1):
                for place in itertools.combinations(range(prime), many):
                    for power in range(31):
                        self.check((prime, 1), (((power,), prime - 1),), (place,))

    def test_one_rest_in_each_place(self):
        for field in FIELDS:
            for poly in some_polys(field)[::3]:
                for point in plain_points(field)[::1 + field[0] ** field[1] // 9]:
                    box = tuple((item,) for item in point)
                    wanted = constant(field, plain_value(field, poly, point))
                    self.assertEqual(rest_in(field, poly, box), wanted)

    def test_a_poly_that_fits_is_its_own_rest(self):
        source = random.Random(25)
        for field in FIELDS:
            for box in sample_boxes(field):
                poly = fitting_poly(source, field, box)
                self.assertEqual(rest_in(field, poly, box), poly)

    def test_the_empty_poly(self):
        for field in FIELDS:
            for box in sample_boxes(field):
                self.assertEqual(rest_in(field, (), box), ())
                self.assertIsNone(alive_point(field, (), box))
                self.assertIs(is_promised(field, (), box), False)

    def test_told_rests(self):
        self.assertEqual(rest_in((3, 1), (((2,), 1),), ((1, 2),)), (((0,), 1),))
        self.assertEqual(rest_in((3, 1), (((2,), 1),), ((0, 1),)), (((1,), 1),))
        self.assertEqual(rest_in((3, 1), (((2,), 1),), ((0, 2),)), (((1,), 2),))
        self.assertEqual(rest_in((7, 2), (((1, 2), 3),), ((0, 1), (2, 3))), (((1, 0), 3), ((1, 1), 1)))
        self.assertEqual(rest_in((5, 2), (((4, 0), 1), ((4, 4), 4)), ((1, 2, 3, 4), (1, 4))), ())


class AlivePoint(unittest.TestCase):
    def test_the_first_point_or_none(self):
        for field in FIELDS:
            boxes = sample_boxes(field)
            for number, poly in enumerate(some_polys(field)):
                for at, box in enumerate(boxes):
                    if field[0] ** field[1] > 81 and (number + at) % 7:
                        continue
                    alive = (each for each in itertools.product(*box) if plain_value(field, poly, each))
                    self.assertEqual(alive_point(field, poly, box), next(alive, None))

    def test_each_point_of_a_box(self):
        for field in ((2, 3), (3, 2), (5, 1), (7, 2)):
            prime, many = field
            box = tuple(tuple(range(1, prime)) if at % 2 == 0 else (0, prime - 1) for at in range(many))
            for point in plain_points(field):
                # 1 at this POINT, and 0 at all others.
                marks = (((0,) * many, 1),)
                for number, item in enumerate(point):
                    marks = times(field, marks, mark(field, number, item))
                inside = all(item in place for item, place in zip(point, box))
                self.assertEqual(alive_point(field, marks, box), point if inside else None)

    def test_told_points(self):
        poly = (((0, 1), 1), ((1, 0), 1))
        self.assertEqual(alive_point((3, 2), poly, ((1, 2), (1, 2))), (1, 1))
        self.assertEqual(alive_point((3, 2), poly, ((1,), (2,))), None)
        self.assertEqual(alive_point((3, 2), poly, ((0, 1), (0, 2))), (0, 2))
        self.assertEqual(alive_point((3, 2), poly, ((1, 2), (1,))), (1, 1))
        self.assertEqual(alive_point((3, 2), poly, ((2,), (1, 2))), (2, 2))


def times(field, one, two):
    table = {}
    for powers, factor in one:
        for more, by in two:
            both = tuple(each + plus for each, plus in zip(powers, more))
            table[both] = (table.get(both, 0) + factor * by) % field[0]
    return tuple(sorted((powers, factor) for powers, factor in table.items() if factor))


def mark(field, number, item):
    """The POLY in one unknown that is not 0 just where it is the item."""
    poly = constant(field, 1)
    for other in range(field[0]):
        if other != item:
            poly = times(field, poly, constant(field, -other % field[0]) + unknown(field, number))
    return poly


class IsPromised(unittest.TestCase):
    def test_by_the_terms(self):
        source = random.Random(26)
        for field in FIELDS:
            seen = set()
            for box in sample_boxes(field):
                polys = some_polys(field) + [fitting_poly(source, field, box)]
                polys += [random_poly(source, field, 3, field[0] - 1) for _ in range(6)]
                for poly in polys:
                    greatest = plain_degree(poly)
                    wanted = any(
                        sum(powers) == greatest and fits(((powers, 1),), box) for powers, _ in poly)
                    self.assertIs(is_promised(field, poly, box), wanted)
                    seen.add(wanted)
                    if wanted and len(poly) <= 9:
                        self.assertIsNotNone(alive_point(field, poly, box))
            self.assertEqual(seen, {True, False})

    def test_a_term_of_the_greatest_degree_alone(self):
        field = (5, 2)
        poly = (((0, 2), 1), ((1, 1), 1), ((2, 0), 1))
        self.assertIs(is_promised(field, poly, ((0,), (1, 2, 4))), True)
        self.assertIs(is_promised(field, poly, ((0, 1), (1, 2))), True)
        self.assertIs(is_promised(field, poly, ((0, 1, 3), (1,))), True)
        self.assertIs(is_promised(field, poly, ((0, 1), (1,))), False)
        # (0, 1) fits, but there is a term of a greater degree.
        poly = (((0, 1), 1), ((2, 0), 1))
        self.assertIs(is_promised(field, poly, ((0, 1), (0, 1))), False)
        self.assertIs(is_promised(field, poly, ((0, 1, 2), (0,))), True)
        self.assertIs(is_promised(field, constant(field, 3), ((0,), (0,))), True)

    def test_powers_of_the_number_of_rests(self):
        for field in FIELDS:
            for many in range(1, field[0] + 1):
                box = (tuple(range(many)),) * field[1]
                self.assertIs(is_promised(field, (((many - 1,) * field[1], 1),), box), True)
                for number in range(field[1]):
                    self.assertIs(is_promised(field, unknown(field, number, many), box), False)

    def test_the_degree_is_not_that_of_the_reduced_form(self):
        # x0 ** 3 is alike x0, which fits; but it is the term as it stands that is asked for.
        self.assertIs(is_promised((3, 1), (((3,), 1),), ((0, 1, 2),)), False)


class WrongBoxes(unittest.TestCase):
    def refused(self, field, thing):
        for function in (rest_in, alive_point, is_promised):
            for poly in ((), constant(field, 1)):
                with self.assertRaises(BadBox) as caught:
                    function(field, poly, thing)
                self.assertIs(caught.exception.value, thing)

    def test_values_of_any_kind(self):
        for field in FIELDS:
            for thing in strange_values() + strange_items():
                if thing == ((1,),) and field[1] == 1:
                    continue
                self.refused(field, thing)

    def test_a_place_too_few_or_too_many(self):
        for field in FIELDS:
            box = (tuple(range(field[0])),) * field[1]
            for thing in (box[1:], box + ((0,),), box + box, (), list(box), (box,), box[0] + box[1:]):
                self.refused(field, thing)

    def test_a_place_that_is_none(self):
        for field in FIELDS:
            prime, many = field
            box = ((0, 1),) * many
            wrong = [
                (), (1, 0), (0, 0), (1, 1), (prime - 1, 0), (0, 1, 1), (0, prime), (prime,), (-1, 0), (-1,),
                [0, 1], {0: 1}, {0, 1}, "01", None, 0, True, range(2), (0, True), (False, 1), (True,), (False,),
                (0, "1"), ("0",), (None,), ((0, 1),), ((0,),), ([0],), (0, 10 ** 999), (0, None),
            ]
            for at in range(many):
                for place in wrong:
                    self.refused(field, box[:at] + (place,) + box[at + 1:])

    def test_field_and_poly_ahead(self):
        for function in (rest_in, alive_point, is_promised):
            with self.assertRaises(BadField):
                function((4, 1), None, None)
            with self.assertRaises(BadPoly) as caught:
                function((3, 1), (((1,), 1), ((1,), 1)), None)
            self.assertEqual(caught.exception.place, (1,))
            with self.assertRaises(BadPoly):
                function((3, 1), None, ((0,),))
