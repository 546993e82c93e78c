"""A desk that leads a live system by lines."""

from primezeros.errors import RestError, TooGreat
from primezeros.live import Live
from primezeros.texts import point_text, poly_text, read_number, read_poly

DONE = "done"
NO = "no"
NONE = "none"


def _put_zero(live, text):
    live.put(read_poly(live.field, text), "zero")
    return DONE


def _put_other(live, text):
    live.put(read_poly(live.field, text), "other")
    return DONE


def _strike(live, text):
    # What is no figure is None, and that is the number of no condition.
    live.strike(read_number(text, 1))
    return DONE


def _turn(live, text):
    live.turn(read_number(text, 1))
    return DONE


def _condition(live, text):
    told = live.conditions()
    number = read_number(text, 1)
    if number is None or number >= len(told):
        return NO
    poly, sign = told[number]
    return sign + " " + poly_text(live.field, poly)


def _holds(live, text):
    # Each rest has one figure; None is no rest.
    point = tuple([read_number(word, 1) for word in text.split(" ")])
    return "yes" if live.holds(point) else "not"


def _undo(live):
    live.undo()
    return DONE


def _many(live):
    return str(len(live.holding()))


def _first(live):
    told = live.holding()
    if len(told) == 0:
        return NONE
    return point_text(live.field, told[0])


def _conditions(live):
    return str(len(live.conditions()))


def _promise(live):
    told = live.promise()
    return NONE if told is None else str(told)


def _field(live):
    prime, many = live.field
    return f"{prime} {many}"


# The lines of one word, and those of a word, a space and a text.
WORDS = {
    "undo": _undo, "many": _many, "first": _first, "conditions": _conditions,
    "promise": _promise, "field": _field,
}
WORDS_WITH_TEXT = {
    "zero": _put_zero, "other": _put_other, "strike": _strike, "turn": _turn,
    "condition": _condition, "holds": _holds,
}


class Desk:
    """A live system that is led and asked by lines."""

    def __init__(self, field):
        self._live = Live(field)

    @property
    def live(self):
        """The very Live."""
        return self._live

    def say(self, line):
        """The answer to a line, "no" where it is none or is refused."""
        if not isinstance(line, str):
            return NO
        try:
            return _answer(self._live, line)
        except (RestError, TooGreat):
            return NO


def _answer(live, line):
    word, blank, text = line.partition(" ")
    if blank == "" and word in WORDS:
        tell = WORDS[word]
        return tell(live)
    if blank == " " and word in WORDS_WITH_TEXT:
        act = WORDS_WITH_TEXT[word]
        return act(live, text)
    return NO
