"""FIELDS, rests and POINTS."""

from primezeros.errors import BadField, BadPoint

PRIMES = (2, 3, 5, 7)
MOST_UNKNOWNS = 4
MOST_POINTS = 700


def is_integer(thing):
    """Whether a value is an integer."""
    # To Python, True and False are integers too; to the document they are not.
    return isinstance(thing, int) and not isinstance(thing, bool)


def is_integer_in(thing, least, most):
    """Whether a value is an integer from least to most."""
    return is_integer(thing) and least <= thing <= most


def is_prime(thing):
    """Whether a value is one of the primes."""
    return is_integer(thing) and thing in PRIMES


def is_tuple_of(thing, many):
    """Whether a value is a tuple of so many items."""
    return isinstance(thing, tuple) and len(thing) == many


def are_rests(prime, thing, many):
    """Whether a value is a tuple of so many rests."""
    return is_tuple_of(thing, many) and all([is_integer_in(item, 0, prime - 1) for item in thing])


def one_alone(many, number):
    """So many items, 1 with the told number, all others 0."""
    return (0,) * number + (1,) + (0,) * (many - 1 - number)


def is_ascending(things):
    """Whether each of the items is greater than the one ahead."""
    return all([one < two for one, two in zip(things, things[1:])])


def sum_of_products(prime, ones, others):
    """The rest that the sum of the products of the items of two rows leaves."""
    return sum([one * two for one, two in zip(ones, others)]) % prime


def power_of(number, power):
    """A number to a power; anything to the power 0 is 1."""
    result = 1
    for _ in range(power):
        result = result * number
    return result


def need_field(thing):
    """The value itself if it is a FIELD; BadField otherwise."""
    if not is_tuple_of(thing, 2):
        raise BadField(())
    prime, many = thing
    if not is_prime(prime):
        raise BadField((0,))
    if not is_integer_in(many, 1, MOST_UNKNOWNS):
        raise BadField((1,))
    if power_of(prime, many) > MOST_POINTS:
        raise BadField(())
    return thing


def is_point(field, thing):
    """Whether a value is a POINT of the FIELD."""
    prime, many = field
    return are_rests(prime, thing, many)


def need_point(field, thing):
    """The value itself if it is a POINT of the FIELD; BadPoint otherwise."""
    if not is_point(need_field(field), thing):
        raise BadPoint(thing)
    return thing


def points(field):
    """The ascending tuple of all POINTS."""
    prime, many = need_field(field)
    begun = [()]
    for _ in range(many):
        begun = [point + (item,) for point in begun for item in range(prime)]
    return tuple(begun)
