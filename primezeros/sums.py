"""VECTORS of rests, and the NOUGHT LOTS of them: lots of places whose sums are 0."""

from itertools import combinations

from primezeros.errors import BadNumber, BadVectors
from primezeros.fields import are_rests, is_integer_in, is_prime

MOST_VECTORS = 13
MOST_LONG = 3


def nought_lot(prime, vectors):
    """The NOUGHT LOT with as few places as can be, the first of several, or None."""
    _need_vectors(prime, vectors)
    return _first_lot(prime, vectors, 1, len(vectors))


def many_nought_lots(prime, vectors):
    """How many NOUGHT LOTS there are."""
    _need_vectors(prime, vectors)
    if len(vectors) == 0:
        return 0
    nought = (0,) * len(vectors[0])
    # For each sum how many lots of the vectors so far have it. The empty lot starts them.
    many = {nought: 1}
    for vector in vectors:
        with_it = {_added(prime, total, vector): many[total] for total in many}
        many = {total: many.get(total, 0) + with_it.get(total, 0) for total in list(many) + list(with_it)}
    # The empty lot is no NOUGHT LOT.
    return many[nought] - 1


def even_lot(prime, rests):
    """The first ascending tuple of P places of rests with the sum 0, or None."""
    _need_prime(prime)
    _need_few(rests)
    for number, rest in enumerate(rests):
        if not is_integer_in(rest, 0, prime - 1):
            raise BadVectors((number,))
    return _first_lot(prime, [(rest,) for rest in rests], prime, prime)


def sure_many(prime, long):
    """The least number of VECTORS of a length that surely have a NOUGHT LOT."""
    _need_prime(prime)
    if not is_integer_in(long, 1, MOST_LONG):
        raise BadNumber(long)
    return long * (prime - 1) + 1


def _need_prime(prime):
    if not is_prime(prime):
        raise BadNumber(prime)


def _need_few(things):
    if not isinstance(things, tuple) or len(things) > MOST_VECTORS:
        raise BadVectors(())


def _need_vectors(prime, vectors):
    _need_prime(prime)
    _need_few(vectors)
    for number, vector in enumerate(vectors):
        if not _is_vector(prime, vector) or len(vector) != len(vectors[0]):
            raise BadVectors((number,))


def _is_vector(prime, thing):
    """Whether a value is a tuple of 1 to 3 rests."""
    if not isinstance(thing, tuple) or not 1 <= len(thing) <= MOST_LONG:
        return False
    return are_rests(prime, thing, len(thing))


def _added(prime, one, two):
    return tuple([(item + other) % prime for item, other in zip(one, two)])


def _first_lot(prime, vectors, least, most):
    """The first lot of the fewest places, at least and at most so many, with all sums 0, or None."""
    for many in range(least, most + 1):
        for places in combinations(range(len(vectors)), many):
            chosen = [vectors[place] for place in places]
            if not any([sum(items) % prime for items in zip(*chosen)]):
                return places
    return None
