"""Lots whose sums are nought ([40], sums.py)."""

import itertools
import random
import unittest

from primezeros.errors import BadNumber, BadVectors
from primezeros.sums import even_lot, many_nought_lots, nought_lot, sure_many
from tests.helpers import nest, strange_items, strange_values

PRIMES = (2, 3, 5, 7)
LENGTHS = (1, 2, 3)
KINDS = tuple(itertools.product(PRIMES, LENGTHS))


def plain_nought_lots(prime, vectors):
    """All NOUGHT LOTS, each lot being tried: fewer places first, then as tuples are ordered."""
    lots = []
    for chosen in itertools.product((False, True), repeat=len(vectors)):
        places = tuple(place for place, is_in in enumerate(chosen) if is_in)
        sums = [sum(vectors[place][item] for place in places) for item in range(len(vectors[0]) if vectors else 0)]
        if places and all(total % prime == 0 for total in sums):
            lots.append(places)
    return sorted(lots, key=lambda places: (len(places), places))


def random_vectors(source, prime, long, many):
    return tuple(tuple(source.randrange(prime) for _ in range(long)) for _ in range(many))


def is_plain_vector(prime, long, thing):
    return type(thing) is tuple and len(thing) == long and all(
        type(item) is int and 0 <= item < prime for item in thing
    )


def units(prime, long):
    """Each unit vector P - 1 times: no NOUGHT LOT, one VECTOR fewer than are sure."""
    return tuple(
        tuple(1 if item == number else 0 for item in range(long)) for number in range(long) for _ in range(prime - 1)
    )


def fault(function, *given):
    """The place at which a function refuses VECTORS, or None."""
    try:
        function(*given)
    except BadVectors as error:
        return error.place
    return None


class NoughtLots(unittest.TestCase):
    def check(self, prime, vectors):
        lots = plain_nought_lots(prime, vectors)
        self.assertEqual(nought_lot(prime, vectors), lots[0] if lots else None, (prime, vectors))
        self.assertEqual(many_nought_lots(prime, vectors), len(lots), (prime, vectors))

    def test_none_to_eight_vectors(self):
        source = random.Random(40)
        for prime, long in KINDS:
            for many in range(9):
                for _ in range(4):
                    self.check(prime, random_vectors(source, prime, long, many))

    def test_up_to_thirteen_vectors(self):
        source = random.Random(41)
        for prime, long in KINDS:
            for many in (11, 13):
                self.check(prime, random_vectors(source, prime, long, many))

    def test_noughts_and_alike_ones(self):
        source = random.Random(42)
        for prime, long in KINDS:
            for _ in range(6):
                few = random_vectors(source, prime, long, 2) + ((0,) * long,)
                self.check(prime, tuple(source.choice(few) for _ in range(7)))

    def test_all_noughts(self):
        for prime, long in KINDS:
            for many in (1, 2, 13):
                self.assertEqual(nought_lot(prime, ((0,) * long,) * many), (0,))
                self.assertEqual(many_nought_lots(prime, ((0,) * long,) * many), 2 ** many - 1)

    def test_thirteen_alike_ones(self):
        for prime, long in KINDS:
            for vectors in (((1,) * long,) * 13, ((0,) * (long - 1) + (prime - 1,),) * 13):
                self.assertEqual(nought_lot(prime, vectors), tuple(range(prime)))
                wanted = sum(1 for chosen in range(1, 2 ** 13) if bin(chosen).count("1") % prime == 0)
                self.assertEqual(many_nought_lots(prime, vectors), wanted)

    def test_no_vectors(self):
        for prime in PRIMES:
            self.assertIsNone(nought_lot(prime, ()))
            self.assertEqual(many_nought_lots(prime, ()), 0)

    def test_one_vector(self):
        for prime, long in KINDS:
            for vector in itertools.product(range(prime), repeat=long):
                self.assertEqual(nought_lot(prime, (vector,)), None if any(vector) else (0,))
                self.assertEqual(many_nought_lots(prime, (vector,)), 0 if any(vector) else 1)

    def test_told_lots(self):
        self.assertEqual(nought_lot(2, ((1, 0), (0, 1), (1, 1))), (0, 1, 2))
        self.assertEqual(nought_lot(3, ((1,), (1,), (1,), (2,))), (0, 3))
        self.assertEqual(nought_lot(3, ((1,), (1,), (1,), (2,), (0,))), (4,))
        self.assertEqual(nought_lot(5, ((1,), (4,), (1,), (4,))), (0, 1))
        self.assertEqual(nought_lot(7, ((3, 1, 0), (5, 2, 0), (4, 6, 0), (1, 1, 1))), (0, 2))
        self.assertIsNone(nought_lot(3, ((1, 0), (0, 1), (1, 1))))
        self.assertEqual(many_nought_lots(3, ((1,), (1,), (1,), (2,))), 4)
        self.assertEqual(many_nought_lots(2, ((1, 0), (0, 1), (1, 1))), 1)


class SureMany(unittest.TestCase):
    def test_the_number(self):
        for prime, long in KINDS:
            self.assertEqual(sure_many(prime, long), long * (prime - 1) + 1)
        self.assertEqual([sure_many(prime, 1) for prime in PRIMES], [2, 3, 5, 7])
        self.assertEqual([sure_many(7, long) for long in LENGTHS], [7, 13, 19])

    def test_so_many_have_a_lot(self):
        source = random.Random(43)
        for prime, long in KINDS:
            many = sure_many(prime, long)
            if many > 13:
                continue
            for _ in range(6):
                vectors = random_vectors(source, prime, long, many)
                self.assertIsNotNone(nought_lot(prime, vectors))
                self.assertGreater(many_nought_lots(prime, vectors), 0)
            for vector in itertools.product(range(prime), repeat=long):
                self.assertIsNotNone(nought_lot(prime, units(prime, long) + (vector,)))

    def test_one_fewer_need_not(self):
        for prime, long in KINDS:
            vectors = units(prime, long)[:13]
            self.assertEqual(len(vectors), min(13, sure_many(prime, long) - 1))
            self.assertIsNone(nought_lot(prime, vectors))
            self.assertEqual(many_nought_lots(prime, vectors), 0)

    def test_no_length(self):
        for prime in PRIMES:
            for thing in strange_items() + strange_values() + [0, 4, -1, 100]:
                if type(thing) is int and thing in LENGTHS:
                    continue
                with self.assertRaises(BadNumber) as caught:
                    sure_many(prime, thing)
                self.assertIs(caught.exception.value, thing)


class EvenLots(unittest.TestCase):
    def plain_even_lot(self, prime, rests):
        for places in itertools.combinations(range(len(rests)), prime):
            if sum(rests[place] for place in places) % prime == 0:
                return places
        return None

    def test_any_rests(self):
        source = random.Random(44)
        for prime in PRIMES:
            for many in range(14):
                for top in {1, 2, prime}:
                    rests = tuple(source.randrange(top) for _ in range(many))
                    self.assertEqual(even_lot(prime, rests), self.plain_even_lot(prime, rests), (prime, rests))

    def test_all_short_rests(self):
        for prime, most in ((2, 5), (3, 5)):
            for many in range(most + 1):
                for rests in itertools.product(range(prime), repeat=many):
                    self.assertEqual(even_lot(prime, rests), self.plain_even_lot(prime, rests))

    def test_enough_rests_have_one(self):
        source = random.Random(45)
        for prime in PRIMES:
            for _ in range(20):
                rests = tuple(source.randrange(prime) for _ in range(2 * prime - 1))
                places = even_lot(prime, rests)
                self.assertEqual(len(places), prime)
                self.assertEqual(sum(rests[place] for place in places) % prime, 0)

    def test_one_fewer_need_not(self):
        for prime in PRIMES:
            rests = (0,) * (prime - 1) + (1,) * (prime - 1)
            self.assertIsNone(even_lot(prime, rests))
            self.assertEqual(even_lot(prime, rests + (0,)), tuple(range(prime - 1)) + (2 * prime - 2,))
            self.assertEqual(even_lot(prime, rests + (1,)), tuple(range(prime - 1, 2 * prime - 1)))

    def test_fewer_than_p_rests(self):
        for prime in PRIMES:
            for many in range(prime):
                self.assertIsNone(even_lot(prime, (0,) * many))
            self.assertEqual(even_lot(prime, (0,) * prime), tuple(range(prime)))
            self.assertEqual(even_lot(prime, (0,) * 13), tuple(range(prime)))

    def test_told_lots(self):
        self.assertEqual(even_lot(3, (1, 1, 0, 0, 1)), (0, 1, 4))
        self.assertEqual(even_lot(2, (1, 0, 1, 0)), (0, 2))
        self.assertEqual(even_lot(3, (0, 1, 2, 0, 0)), (0, 1, 2))
        self.assertIsNone(even_lot(3, (1, 1, 2, 2)))


class NoVectors(unittest.TestCase):
    def test_no_tuple(self):
        for prime in PRIMES:
            for function in (nought_lot, many_nought_lots, even_lot):
                for thing in strange_values():
                    if not isinstance(thing, tuple):
                        self.assertEqual(fault(function, prime, thing), (), repr(thing)[:50])
                self.assertEqual(fault(function, prime, [(0,)]), ())
                self.assertEqual(fault(function, prime, {(0,): 1}), ())
                self.assertEqual(fault(function, prime, [0]), ())

    def test_thirteen_things_and_fourteen(self):
        for prime in PRIMES:
            for function, thing in ((nought_lot, (0,)), (many_nought_lots, (0, 1)), (even_lot, 1)):
                self.assertIsNone(fault(function, prime, (thing,) * 13))
                self.assertEqual(fault(function, prime, (thing,) * 12 + (None,)), (12,))
                self.assertEqual(fault(function, prime, (thing,) * 14), ())
                self.assertEqual(fault(function, prime, (None,) * 14), ())
                self.assertEqual(fault(function, prime, (thing,) * 500), ())

    def test_tuples_of_other_things(self):
        for function in (nought_lot, many_nought_lots, even_lot):
            for thing in strange_values():
                if isinstance(thing, tuple) and thing not in ((2, 1, 1, 1, 1, 1), ((2, 1), 1)):
                    place = () if len(thing) > 13 else (0,)
                    self.assertEqual(fault(function, 2, thing), place, repr(thing)[:50])
        self.assertEqual(fault(nought_lot, 3, ((2, 1), 1)), (1,))
        self.assertEqual(fault(many_nought_lots, 3, ((2, 1), 1)), (1,))
        self.assertEqual(fault(even_lot, 3, ((2, 1), 1)), (0,))
        self.assertEqual(fault(even_lot, 2, (1, 1, 2, 1, 1)), (2,))

    def wrong_vectors(self, prime, long):
        wrong = strange_items() + strange_values() + [
            (), (0,) * 4, (0,) * 5, [0] * long, "0" * long, ((0,) * long,), nest(40, 0), 0, {0: 0}, b"\x00" * long,
        ]
        wrong += [(0,) * other for other in LENGTHS if other != long]
        for at in range(long):
            for item in strange_items() + [prime, prime + 1, prime * 2]:
                wrong.append((0,) * at + (item,) + (0,) * (long - 1 - at))
        return [thing for thing in wrong if not is_plain_vector(prime, long, thing)]

    def test_the_first_vector_that_is_none(self):
        for prime, long in KINDS:
            good = units(prime, long)[:1] * 5
            for thing in self.wrong_vectors(prime, long):
                for number in (1, 4, 5):
                    for behind in ((), (None,), good):
                        given = good[:number] + (thing,) + behind
                        self.assertEqual(fault(nought_lot, prime, given), (number,), repr(thing)[:50])
                        self.assertEqual(fault(many_nought_lots, prime, given), (number,), repr(thing)[:50])

    def test_the_first_vector_tells_the_length(self):
        for function in (nought_lot, many_nought_lots):
            for long, other in itertools.permutations(LENGTHS, 2):
                vectors = ((0,) * long, (0,) * long, (0,) * other, (0,) * long)
                self.assertEqual(fault(function, 3, vectors), (2,))
            for thing in ((), (0,) * 4, None, 0, (0, 3), (True,), [0], "0"):
                self.assertEqual(fault(function, 3, (thing, (0, 0))), (0,))
                self.assertEqual(fault(function, 3, (thing,)), (0,))

    def test_the_first_rest_that_is_none(self):
        for prime in PRIMES:
            for thing in strange_items() + [prime, prime + 1, 7, 8, (0,), nest(49)]:
                for number in (0, 1, 6):
                    for behind in ((), (None,), (0,) * 6):
                        given = (1,) * number + (thing,) + behind
                        self.assertEqual(fault(even_lot, prime, given), (number,), repr(thing)[:50])

    def test_rests_of_a_greater_prime(self):
        self.assertEqual(fault(even_lot, 5, (6, 6, 6)), (0,))
        self.assertIsNone(fault(even_lot, 7, (6, 6, 6)))
        self.assertEqual(fault(nought_lot, 2, ((0, 1), (0, 2))), (1,))
        self.assertIsNone(fault(nought_lot, 3, ((0, 1), (0, 2))))


class NoPrime(unittest.TestCase):
    def test_ahead_of_the_others(self):
        wrong = strange_items() + strange_values() + [0, 1, 4, 6, 8, 9, 11, 13, -2, -3]
        for thing in wrong:
            if type(thing) is int and thing in PRIMES:
                continue
            for call in (
                lambda: nought_lot(thing, ((0,),)), lambda: nought_lot(thing, None),
                lambda: many_nought_lots(thing, ((0,),)), lambda: many_nought_lots(thing, (None,)),
                lambda: even_lot(thing, (0, 0)), lambda: even_lot(thing, None),
                lambda: sure_many(thing, 1), lambda: sure_many(thing, None),
            ):
                with self.assertRaises(BadNumber) as caught:
                    call()
                self.assertIs(caught.exception.value, thing)
