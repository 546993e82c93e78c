"""Promises, norms and lonely SYSTEMS ([21], [22], promises.py)."""

import itertools
import random
import unittest

from primezeros.errors import BadField, BadNumber, BadSystem
from primezeros.polys import degree, need_poly
from primezeros.promises import is_lonely, least_zeros, lonely, norm, promise, top
from primezeros.systems import need_system
from tests.helpers import FIELDS, constant, most_terms, nest, plain_degree, plain_points, plain_zeros
from tests.helpers import random_poly, sample_systems, strange_values, unknown


def straight(field, source):
    """A POLY of the degree 1."""
    poly = unknown(field, source.randrange(field[1]), 1, source.randint(1, field[0] - 1))
    for number in range(field[1]):
        poly = join(field, poly, unknown(field, number, 1, source.randint(0, field[0] - 1)))
    return poly or unknown(field, 0)


def join(field, *polys):
    """The sum of POLYS with all of its powers."""
    table = {}
    for powers, factor in itertools.chain(*polys):
        table[powers] = (table.get(powers, 0) + factor) % field[0]
    return tuple(sorted((powers, factor) for powers, factor in table.items() if factor))


def square_sum(field):
    return join(field, *(unknown(field, number, 2) for number in range(field[1])))


def product_of_all(field):
    return (((1,) * field[1], 1),)


def many_systems(field):
    """SYSTEMS of one POLY to four, of the degrees 1, 2 and more. The same for each call."""
    source = random.Random(field[0] * 1000 + field[1])
    squares, whole = square_sum(field), product_of_all(field)
    systems = sample_systems(field) + [
        (squares,), (whole,), (squares, whole), (whole, squares, squares, whole),
        (join(field, squares, constant(field, 1)),), (join(field, whole, constant(field, field[0] - 1)),),
        (most_terms(field),), ((((30,) * field[1], 1),),),
    ]
    for many in (1, 2, 3, 4):
        systems.append(tuple(straight(field, source) for _ in range(many)))
        systems.append((squares,) + tuple(straight(field, source) for _ in range(many - 1)))
        for most in (1, 2):
            polys = [random_poly(source, field, 5, most) for _ in range(many)]
            systems.append(tuple(join(field, straight(field, source), poly) or whole for poly in polys))
    return [system for system in systems if all(plain_degree(poly) >= 1 for poly in system)]


class Promises(unittest.TestCase):
    def test_the_least_integer(self):
        for field in FIELDS:
            seen = set()
            for system in many_systems(field):
                degrees = [plain_degree(poly) for poly in system]
                wanted = 0
                while wanted * max(degrees) < field[1] - sum(degrees):
                    wanted += 1
                told = promise(field, system)
                self.assertIs(type(told), int)
                self.assertEqual(told, wanted, (field, system))
                seen.add(wanted)
            self.assertEqual(max(seen), field[1] - 1)
            self.assertEqual(min(seen), 0)

    def test_told_promises(self):
        wanted = {
            (1,): 3, (2,): 1, (3,): 1, (4,): 0, (5,): 0, (1, 1): 2, (1, 2): 1, (2, 1): 1, (2, 2): 0,
            (1, 3): 0, (3, 1): 0, (1, 1, 1): 1, (1, 1, 2): 0, (1, 1, 1, 1): 0, (2, 2, 2, 2): 0, (30,): 0,
        }
        for prime in (2, 3, 5):
            for degrees, power in wanted.items():
                system = tuple(unknown((prime, 4), at, most) for at, most in enumerate(degrees))
                self.assertEqual(promise((prime, 4), system), power, degrees)
        self.assertEqual(promise((7, 3), (product_of_all((7, 3)),)), 0)
        self.assertEqual(promise((7, 3), (unknown((7, 3), 1, 2),)), 1)
        self.assertEqual(promise((7, 3), (unknown((7, 3), 1),)), 2)

    def test_the_number_of_zeros_is_parted(self):
        for field in FIELDS:
            for system in many_systems(field):
                many = len(plain_zeros(field, system))
                self.assertEqual(many % field[0] ** promise(field, system), 0, (field, system))

    def test_the_degree_is_not_that_of_the_reduced_form(self):
        field = (2, 4)
        # The square of an unknown is alike the unknown, but has the degree 2.
        self.assertEqual(promise(field, (unknown(field, 0, 2),)), 1)
        self.assertEqual(promise(field, (unknown(field, 0, 1),)), 3)
        self.assertEqual(least_zeros(field, (unknown(field, 0, 2),)), 4)
        self.assertEqual(least_zeros(field, (unknown(field, 0, 1),)), 8)

    def test_top(self):
        for field in FIELDS:
            prime, many = field
            seen = set()
            for system in many_systems(field):
                told = top(field, system)
                self.assertIs(type(told), int)
                # Both are rests, so this is the one that it can be.
                self.assertEqual(told, len(plain_zeros(field, system)) * (-1) ** many % prime)
                if sum(plain_degree(poly) for poly in system) < many:
                    self.assertEqual(told, 0)
                seen.add(told)
            self.assertGreater(len(seen), 1)

    def test_told_tops(self):
        self.assertEqual(top((3, 1), (unknown((3, 1), 0),)), 2)
        self.assertEqual(top((3, 2), (unknown((3, 2), 0), unknown((3, 2), 1))), 1)
        self.assertEqual(top((3, 2), (unknown((3, 2), 0),)), 0)
        self.assertEqual(top((2, 1), (unknown((2, 1), 0),)), 1)
        # Two zeros, then three: x0 ** 2 is 1 at two rests, x0 ** 3 at three.
        self.assertEqual(top((7, 1), ((((0,), 6), ((2,), 1)),)), 5)
        self.assertEqual(top((7, 1), ((((0,), 6), ((3,), 1)),)), 4)
        self.assertEqual(top((5, 1), ((((0,), 3), ((2,), 1)),)), 0)

    def test_least_zeros(self):
        for field in FIELDS:
            prime, many = field
            for system in many_systems(field):
                spare = many - sum(plain_degree(poly) for poly in system)
                told = least_zeros(field, system)
                self.assertIs(type(told), int)
                self.assertEqual(told, prime ** spare if spare > 0 else 1)
                held = len(plain_zeros(field, system))
                if held and spare >= 0:
                    self.assertGreaterEqual(held, told)

    def test_least_zeros_is_reached(self):
        for field in FIELDS:
            for many in range(1, field[1] + 1):
                system = tuple(unknown(field, number) for number in range(many))
                self.assertEqual(least_zeros(field, system), field[0] ** (field[1] - many))
                self.assertEqual(len(plain_zeros(field, system)), least_zeros(field, system))
            self.assertEqual(least_zeros(field, (unknown(field, 0, field[1]),)), 1)
            self.assertEqual(least_zeros(field, (unknown(field, 0, field[1] + 1),)), 1)
            self.assertEqual(least_zeros(field, (unknown(field, 0, 30),) * 4), 1)

    def test_systems_without_zeros_and_with_all_points(self):
        for field in FIELDS:
            prime, many = field
            nowhere = join(field, unknown(field, 0, 1, prime - 1), unknown(field, 0, prime))
            never = join(field, nowhere, constant(field, 1))
            for system in ((nowhere,), (never,)):
                # Either number of zeros is parted by P.
                self.assertEqual(top(field, system), 0)
                self.assertEqual(promise(field, system), -(-max(0, many - prime) // prime))
                self.assertEqual(least_zeros(field, system), prime ** max(0, many - prime))


class Norms(unittest.TestCase):
    def test_norms_of_every_field(self):
        for field in FIELDS:
            for many in range(1, field[1] + 1):
                poly = norm(field, many)
                self.assertIs(need_poly(field, poly), poly)
                self.assertEqual(degree(field, poly), many)
                for powers, _ in poly:
                    self.assertEqual(sum(powers), many)
                    self.assertEqual(powers[many:], (0,) * (field[1] - many))
                held = set(plain_zeros(field, (poly,)))
                wanted = {point for point in plain_points(field) if not any(point[:many])}
                self.assertEqual(held, wanted, (field, many))

    def test_no_such_number(self):
        for field in FIELDS:
            wrong = [each for each in strange_values() if not (type(each) is int and 1 <= each <= field[1])]
            wrong += [0, field[1] + 1, -1, True, None, "1", (1,), [1], {1: 1}, b"1", (field[1],)]
            for thing in wrong:
                with self.assertRaises(BadNumber) as caught:
                    norm(field, thing)
                self.assertIs(caught.exception.value, thing)


class Lonely(unittest.TestCase):
    def check(self, field, degrees, known):
        """Checks what is told for some DEGREES; known keeps what was found lonely."""
        system = lonely(field, degrees)
        if sum(degrees) < field[1]:
            self.assertIsNone(system)
            return
        self.assertEqual(len(system), len(degrees))
        self.assertIs(need_system(field, system), system)
        for poly, most in zip(system, degrees):
            self.assertLessEqual(1, plain_degree(poly))
            self.assertLessEqual(plain_degree(poly), most)
        if system not in known:
            self.assertEqual(plain_zeros(field, system), ((0,) * field[1],), (field, degrees))
            self.assertIs(is_lonely(field, system), True)
            known[system] = True

    def test_one_number_and_two(self):
        for field in FIELDS:
            known = {}
            for many in (1, 2):
                for degrees in itertools.product(range(1, 9), repeat=many):
                    self.check(field, degrees, known)

    def test_three_numbers_and_four(self):
        for field in FIELDS:
            known = {}
            for many in (3, 4):
                for degrees in itertools.product((1, 2, 4, 8), repeat=many):
                    self.check(field, degrees, known)

    def test_all_numbers(self):
        known = {}
        for many in (1, 2, 3, 4):
            for degrees in itertools.product(range(1, 9), repeat=many):
                self.check((3, 3), degrees, known)

    def test_none_if_the_sum_is_below_the_number_of_unknowns(self):
        for field in FIELDS:
            for many in (1, 2, 3, 4):
                for degrees in itertools.product((1, 2, 3), repeat=many):
                    told = lonely(field, degrees)
                    self.assertEqual(told is None, sum(degrees) < field[1], (field, degrees))

    def test_no_degrees(self):
        wrong = strange_values() + [
            (), (1, 1, 1, 1, 1), (0,), (9,), (1, 0), (9, 1), (1, 1, 1, 9), (0, 1, 1, 1), (True,), (1, True),
            (-1,), [1], [4, 4], 4, 1, (None,), ("4",), ((4,),), ([4],), {4: 4}, "4", (10 ** 999,), nest(45, 4),
        ]
        for field in FIELDS:
            for thing in wrong:
                with self.assertRaises(BadNumber) as caught:
                    lonely(field, thing)
                self.assertIs(caught.exception.value, thing)

    def test_wrong_degrees_of_a_small_sum(self):
        for thing in ((0,), (), (True,), (1, 0)):
            with self.assertRaises(BadNumber):
                lonely((2, 4), thing)


class IsLonely(unittest.TestCase):
    def test_by_the_zeros(self):
        for field in FIELDS:
            for system in many_systems(field):
                wanted = plain_zeros(field, system) == ((0,) * field[1],)
                self.assertIs(is_lonely(field, system), wanted)

    def test_one_zero_that_is_not_nought(self):
        for field in FIELDS:
            for at in range(field[1]):
                polys = [unknown(field, number) for number in range(field[1])]
                self.assertIs(is_lonely(field, tuple(polys)), True)
                polys[at] = join(field, polys[at], constant(field, 1))
                self.assertEqual(len(plain_zeros(field, tuple(polys))), 1)
                self.assertIs(is_lonely(field, tuple(polys)), False)

    def test_one_zero_beside_nought(self):
        for field in FIELDS:
            prime, many = field
            # x0 ** 2 - x0 is 0 at 0 and at 1.
            two = join(field, unknown(field, 0, 1, prime - 1), unknown(field, 0, 2))
            system = (two,) + tuple(unknown(field, number) for number in range(1, many))
            self.assertEqual(len(plain_zeros(field, system)), 2)
            self.assertIs(is_lonely(field, system), False)
            self.assertIs(is_lonely(field, system[::-1]), False)

    def test_all_points_but_nought(self):
        for field in FIELDS:
            # The power P - 1 is 1 at all rests but 0.
            poly = constant(field, 1)
            for number in range(field[1]):
                less = join(field, constant(field, 1), unknown(field, number, field[0] - 1, field[0] - 1))
                poly = join(field, *(
                    ((tuple(one + two for one, two in zip(powers, more)), factor * by % field[0]),)
                    for powers, factor in poly for more, by in less
                ))
            self.assertEqual(len(plain_zeros(field, (poly,))), field[0] ** field[1] - 1)
            self.assertIs(is_lonely(field, (poly,)), False)


class Refused(unittest.TestCase):
    def test_the_field_ahead_of_all(self):
        for function in (promise, top, least_zeros, norm, lonely, is_lonely):
            for thing, place in ((None, ()), ((4, 1), (0,)), ((2, 5), (1,)), ((7, 4), ())):
                with self.assertRaises(BadField) as caught:
                    function(thing, None)
                self.assertEqual(caught.exception.place, place)

    def test_wrong_systems(self):
        for field in FIELDS:
            good = unknown(field, 0)
            for function in (promise, top, least_zeros, is_lonely):
                wrong = [
                    ((), ()), (None, ()), ([good], ()), ((good,) * 5, ()), ((good, constant(field, 1)), (1,)),
                    (((),), (0,)), ((good, good, None, ()), (2,)), (good, (0,)),
                ]
                for thing, place in wrong:
                    with self.assertRaises(BadSystem) as caught:
                        function(field, thing)
                    self.assertEqual(caught.exception.place, place)
