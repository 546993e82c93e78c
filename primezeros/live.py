"""A live system: conditions that deeds put, strike and turn, and that can be taken back."""

from primezeros.errors import BadNumber, BadPoly, NothingLeft, TooGreat
from primezeros.fields import is_integer_in, need_field, need_point, points
from primezeros.polys import degree, value_at, values
from primezeros.promises import promise

MOST_CONDITIONS = 4
MOST_DEEDS = 400

# Each sign, and what it is turned to.
TURNED = {"zero": "other", "other": "zero"}


class Live:
    """A FIELD and the deeds that were done and not taken back, one after the other."""

    def __init__(self, field):
        self._field = need_field(field)
        # The deeds alone tell all; what they come to is made from them when it is asked for.
        self._deeds = ()

    @property
    def field(self):
        """The FIELD."""
        return self._field

    def put(self, poly, sign):
        """Puts a condition behind all others."""
        if degree(self._field, poly) < 1:
            raise BadPoly(())
        if not isinstance(sign, str) or sign not in TURNED:
            raise BadNumber(sign)
        if len(self.conditions()) == MOST_CONDITIONS:
            raise TooGreat(MOST_CONDITIONS)
        self._do("put", (poly, sign))

    def strike(self, number):
        """Strikes a condition."""
        self._need_number(number)
        self._do("strike", number)

    def turn(self, number):
        """Turns the sign of a condition."""
        self._need_number(number)
        self._do("turn", number)

    def conditions(self):
        """The tuple of pairs of a POLY and its sign."""
        told = ()
        for deed in self._deeds:
            told = _after(told, deed)
        return told

    def holding(self):
        """The ascending tuple of the POINTS that hold."""
        rows = []
        for poly, sign in self.conditions():
            rows.append([_is_as(sign, value) for value in values(self._field, poly)])
        return tuple([
            point for place, point in enumerate(points(self._field)) if all([row[place] for row in rows])
        ])

    def holds(self, point):
        """Whether a POINT holds."""
        need_point(self._field, point)
        return all([_is_as(sign, value_at(self._field, poly, point)) for poly, sign in self.conditions()])

    def promise(self):
        """The promise of the SYSTEM of all POLYS, None if there is none or a sign is "other"."""
        told = self.conditions()
        if len(told) == 0 or any([sign == "other" for _, sign in told]):
            return None
        return promise(self._field, tuple([poly for poly, _ in told]))

    def undo(self):
        """Takes back the last deed."""
        if len(self._deeds) == 0:
            raise NothingLeft()
        self._deeds = self._deeds[:-1]

    def copy(self):
        """Another Live that stands as this one, and goes on by itself."""
        other = Live(self._field)
        other._deeds = self._deeds
        return other

    def trial(self):
        """What a with statement takes, so that all is as it was behind its block."""
        return Trial(self)

    def __len__(self):
        return len(self._deeds)

    def __eq__(self, other):
        return isinstance(other, Live) and self._field == other._field and self._deeds == other._deeds

    def _need_number(self, number):
        if not is_integer_in(number, 0, len(self.conditions()) - 1):
            raise BadNumber(number)

    def _do(self, word, thing):
        if len(self._deeds) == MOST_DEEDS:
            raise TooGreat(MOST_DEEDS)
        self._deeds = self._deeds + ((word, thing),)


class Kept:
    """The deeds at the beginning of a block, and what was kept for the block around it."""

    def __init__(self, deeds, around):
        self.deeds = deeds
        self.around = around


class Trial:
    """Gives a Live to a block, and leaves it as it was when the block began."""

    def __init__(self, live):
        self._live = live
        self._kept = None

    def __enter__(self):
        # The same Trial may be taken again within its own block.
        self._kept = Kept(self._live._deeds, self._kept)
        return self._live

    def __exit__(self, *told):
        self._live._deeds = self._kept.deeds
        self._kept = self._kept.around


def under(manager, deed):
    """What deed(one) returns in a with statement over a manager that gives this one."""
    with manager as one:
        return deed(one)


def _after(conditions, deed):
    """Conditions as a deed leaves them."""
    word, thing = deed
    if word == "put":
        return conditions + (thing,)
    ahead = conditions[:thing]
    behind = conditions[thing + 1:]
    if word == "strike":
        return ahead + behind
    poly, sign = conditions[thing]
    return ahead + ((poly, TURNED[sign]),) + behind


def _is_as(sign, value):
    """Whether a value is what a sign asks for."""
    return (value == 0) == (sign == "zero")
