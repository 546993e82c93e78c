"""The exceptions of the package, each with the field that it was made with."""


class RestError(ValueError):
    """Any argument that is refused."""


class BadField(RestError):
    """A value that is no FIELD; place tells where."""

    def __init__(self, place):
        self.place = place


class BadPoly(RestError):
    """A value that is no POLY; place tells where."""

    def __init__(self, place):
        self.place = place


class BadPoint(RestError):
    """A value that is no POINT, or not one that is asked for."""

    def __init__(self, value):
        self.value = value


class BadSystem(RestError):
    """A value that is no SYSTEM; place tells where."""

    def __init__(self, place):
        self.place = place


class BadBox(RestError):
    """A value that is no BOX."""

    def __init__(self, value):
        self.value = value


class BadLot(RestError):
    """A value that is no LOT."""

    def __init__(self, value):
        self.value = value


class BadPlanes(RestError):
    """A value that is no tuple of PLANES; place tells where."""

    def __init__(self, place):
        self.place = place


class BadVectors(RestError):
    """A value that is no tuple of VECTORS or rests; place tells where."""

    def __init__(self, place):
        self.place = place


class BadNumber(RestError):
    """A value that is no such number, and no such tuple of numbers."""

    def __init__(self, value):
        self.value = value


class BadPaper(RestError):
    """A value that is no PAPER; word tells what of it is wrong."""

    def __init__(self, word):
        self.word = word


class BadText(RestError):
    """A value that is no text of a POLY; part tells where."""

    def __init__(self, part):
        self.part = part


class NothingLeft(RestError):
    """No deed is left that could be taken back."""


class TooGreat(OverflowError):
    """More than the package takes on; most tells how much that is."""

    def __init__(self, most):
        self.most = most
