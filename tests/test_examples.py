"""The examples of DOC.md."""

import unittest

from primezeros.hidden import depth
from primezeros.planes import cover
from primezeros.polys import reduced
from primezeros.promises import is_lonely, lonely, promise, top
from primezeros.sums import even_lot, nought_lot, sure_many
from primezeros.systems import count, zeros
from primezeros.texts import poly_text, read_poly


class Examples(unittest.TestCase):
    def test_the_count_of_a_square_sum(self):
        field = (3, 3)
        system = ((((0, 0, 2), 1), ((0, 2, 0), 1), ((2, 0, 0), 1)),)
        self.assertEqual(count(field, system), 9)
        self.assertEqual(len(zeros(field, system)), 9)
        self.assertEqual(zeros(field, system)[0], (0, 0, 0))

    def test_the_promise_of_a_square_sum(self):
        field = (3, 3)
        system = ((((0, 0, 2), 1), ((0, 2, 0), 1), ((2, 0, 0), 1)),)
        self.assertEqual((promise(field, system), count(field, system), top(field, system)), (1, 9, 0))

    def test_lonely_systems(self):
        field = (3, 3)
        self.assertEqual((is_lonely(field, lonely(field, (2, 1))), lonely(field, (2,))), (True, None))

    def test_a_depth_and_a_cover(self):
        self.assertEqual((depth((3, 1), ((0,), (1,)), (2,)), len(cover((5, 2)))), (2, 8))

    def test_lots(self):
        told = even_lot(3, (1, 1, 0, 0, 1)), nought_lot(2, ((1, 0), (0, 1), (1, 1))), sure_many(5, 3)
        self.assertEqual(told, ((0, 1, 4), (0, 1, 2), 13))

    def test_a_text(self):
        self.assertEqual(poly_text((3, 2), (((0, 0), 2), ((2, 1), 1))), "2 + 1*x0^2*x1")
        self.assertEqual(read_poly((3, 2), "2 + 1*x0^2*x1"), (((0, 0), 2), ((2, 1), 1)))

    def test_the_reduced_form(self):
        self.assertEqual(reduced((3, 1), (((5,), 2),)), (((1,), 2),))

    def test_parted_by_the_prime(self):
        # The sum of the degrees is less than the number of unknowns.
        system = ((((0, 0, 0, 1), 2), ((1, 1, 0, 0), 1)), (((0, 0, 1, 0), 3),))
        self.assertEqual(count((5, 4), system) % 5, 0)
