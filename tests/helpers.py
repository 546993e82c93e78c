"""What several tests share: values of every kind, and plain ways to the same results."""

import itertools
import random

FIELDS = tuple(
    (prime, many) for prime in (2, 3, 5, 7) for many in (1, 2, 3, 4) if prime ** many <= 700
)

# Values that are no FIELD, each with the place at which it is none.
WRONG_FIELDS = (
    (None, ()), ((4, 1), (0,)), ((3, 0), (1,)), ((7, 4), ()), ([2, 1], ()), ((True, 1), (0,)), ((2, True), (1,)),
)


class Odd:
    """An object of a class of its own."""


def nest(deep, inner=()):
    """A tuple nested so deep."""
    for _ in range(deep):
        inner = (inner,)
    return inner


def strange_values():
    """Values of every kind that are neither FIELD, POLY, POINT, SYSTEM nor rests."""
    return [
        None, True, False, 0, 1, -1, 2, 3, 7, 10 ** 999, -(10 ** 999),
        "", "x", "21", "(2, 1)", "x" * 20000, b"", b"ab",
        [], [2, 1], [(2, 1)], [((1,), 1)], {}, {2: 1}, {"a": []}, set(), {2, 1}, frozenset((2, 1)),
        (None,), (None, None), ("a", "b"), ("2", "1"), (True, True), (False, False), (True, False),
        (2, 1, 1, 1, 1, 1), ((2, 1), 1), (2, (1,)), ([2], [1]), ({}, {}), (10 ** 999, 1), (2, 10 ** 999),
        (-(10 ** 999), -(10 ** 999)), nest(49), nest(48, 2), nest(48, (2, 1)), (b"a", b"b"),
        tuple(range(19999)), (None,) * 19999, Odd(), Odd, len, range(2), object(),
    ]


def strange_items():
    """Values that are no integer, or none of those from 0 to 30."""
    return [
        None, True, False, -1, 31, 10 ** 999, -(10 ** 999), "", "1", "a", b"1",
        (), (1,), ((1,),), [], [1], {}, {1: 1}, {1}, frozenset((1,)), nest(40), Odd(), int,
    ]


def plain_points(field):
    return tuple(itertools.product(range(field[0]), repeat=field[1]))


def plain_value(field, poly, point):
    """The value as the document tells it."""
    total = 0
    for powers, factor in poly:
        for item, power in zip(point, powers):
            factor *= item ** power
        total += factor
    return total % field[0]


def plain_values(field, poly):
    return tuple(plain_value(field, poly, point) for point in plain_points(field))


def plain_degree(poly):
    return max((sum(powers) for powers, _ in poly), default=-1)


def plain_reduced(field, poly):
    """The reduced form by the fact: a power of P or more is made less by P - 1, again and again."""
    prime = field[0]
    table = {}
    for powers, factor in poly:
        lower = []
        for power in powers:
            while power >= prime:
                power -= prime - 1
            lower.append(power)
        table[tuple(lower)] = (table.get(tuple(lower), 0) + factor) % prime
    return tuple(sorted((powers, factor) for powers, factor in table.items() if factor))


def plain_product(field, poly, other):
    """The reduced product by multiplying out."""
    table = {}
    for powers, factor in poly:
        for more, by in other:
            key = tuple(one + two for one, two in zip(powers, more))
            table[key] = table.get(key, 0) + factor * by
    return plain_reduced(field, sorted(table.items()))


def plain_sum(field, poly, other):
    return plain_reduced(field, poly + other)


def plain_zeros(field, system):
    return tuple(
        point for point in plain_points(field)
        if all(plain_value(field, poly, point) == 0 for poly in system)
    )


def constant(field, rest):
    return (((0,) * field[1], rest),) if rest else ()


def unknown(field, number, power=1, factor=1):
    """The POLY of one term that has one unknown alone."""
    return ((tuple(power if k == number else 0 for k in range(field[1])), factor),)


def random_poly(source, field, terms, most=30):
    """A POLY of at most so many terms with powers of at most most."""
    table = {}
    for _ in range(terms):
        powers = tuple(source.randint(0, most) for _ in range(field[1]))
        table[powers] = source.randint(1, field[0] - 1)
    return tuple(sorted(table.items()))


def most_terms(field, many=700):
    """A POLY of so many terms, or of as many as there are."""
    every = itertools.product(range(30, -1, -1), repeat=field[1])
    chosen = sorted(itertools.islice(every, many))
    return tuple((powers, 1 + at % (field[0] - 1)) for at, powers in enumerate(chosen))


def sample_polys(field):
    """POLYS of a FIELD at the edges, and some others. The same for each call."""
    prime, many = field
    source = random.Random(prime * 10 + many)
    polys = [
        (), constant(field, 1), constant(field, prime - 1),
        tuple((powers, prime - 1) for powers in plain_points(field)),
        most_terms(field),
        (((30,) * many, 1),),
    ]
    for number in range(many):
        for power in (1, prime - 1, prime, prime + 1, 2 * prime - 2, 2 * prime - 1, 30):
            polys.append(unknown(field, number, power, prime - 1))
    for terms, most in ((1, 3), (2, 1), (3, 30), (5, prime), (9, prime - 1), (40, 30)):
        polys.append(random_poly(source, field, terms, most))
    return polys


def sample_systems(field):
    """SYSTEMS of one to four POLYS: with no zeros, with all POINTS as zeros, and others."""
    prime, many = field
    source = random.Random(prime * 100 + many)
    first = unknown(field, 0)
    last = unknown(field, many - 1)
    # A power of P less the first power is 0 at all POINTS.
    nowhere = tuple(sorted(unknown(field, 0, 1, prime - 1) + unknown(field, 0, prime)))
    beside = tuple(sorted(constant(field, 1) + first))
    systems = [
        (first,), (last,), (nowhere,), (nowhere, nowhere, nowhere, nowhere),
        (first, beside), (tuple(sorted(constant(field, 1) + nowhere)),), (first, last, nowhere),
        tuple(unknown(field, number) for number in range(many)),
    ]
    for many_polys in (1, 1, 2, 3, 4):
        polys = []
        while len(polys) < many_polys:
            poly = random_poly(source, field, 4, prime)
            if any(sum(powers) for powers, _ in poly):
                polys.append(poly)
        systems.append(tuple(polys))
    return systems


def sample_boxes(field):
    """BOXES of a FIELD: of one rest in a place, of all rests, and others. The same for each call."""
    prime, many = field
    source = random.Random(prime * 1000 + many)
    boxes = [
        ((0,),) * many, ((prime - 1,),) * many, (tuple(range(prime)),) * many,
        (tuple(range(1, prime)),) * many, ((0, prime - 1),) * many,
        ((0,),) * (many - 1) + (tuple(range(prime)),), (tuple(range(prime)),) + ((1,),) * (many - 1),
    ]
    for _ in range(6):
        boxes.append(tuple(
            tuple(sorted(source.sample(range(prime), source.randint(1, prime)))) for _ in range(many)))
    return boxes
