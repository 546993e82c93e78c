"""The texts of POLYS and POINTS, and POLYS read from texts."""

from primezeros.errors import BadText
from primezeros.fields import need_field, need_point
from primezeros.polys import need_poly

FIGURES = "0123456789"


def poly_text(field, poly):
    """The text of a POLY."""
    need_poly(field, poly)
    if len(poly) == 0:
        return "0"
    return " + ".join([_term_text(powers, factor) for powers, factor in poly])


def point_text(field, point):
    """The text of a POINT."""
    need_point(field, point)
    return " ".join([str(item) for item in point])


def read_poly(field, text):
    """The POLY that a text tells, its terms in any order."""
    many = need_field(field)[1]
    if not isinstance(text, str):
        raise BadText(None)
    if text == "0":
        # Only the whole text tells the empty POLY: beside other parts "0" is a term, with a factor that is refused.
        return ()
    terms = _read_terms(many, text.split(" + "))
    seen = set()
    for number, (powers, _) in enumerate(terms):
        if powers in seen:
            raise BadText(number)
        seen.add(powers)
    return need_poly(field, tuple(sorted(terms)))


def read_number(word, most):
    """The number that at most so many figures tell without a needless 0, or None."""
    if not 1 <= len(word) <= most or not all([each in FIGURES for each in word]):
        return None
    if len(word) > 1 and word[0] == "0":
        return None
    return int(word)


def _term_text(powers, factor):
    return str(factor) + "".join([
        _unknown_text(number, power) for number, power in enumerate(powers) if power > 0
    ])


def _unknown_text(number, power):
    if power == 1:
        return f"*x{number}"
    return f"*x{number}^{power}"


def _read_terms(many, parts):
    """The terms that all parts of a text tell; BadText if one has not the form."""
    terms = []
    for number, part in enumerate(parts):
        term = _read_term(many, part)
        if term is None:
            raise BadText(number)
        terms.append(term)
    return terms


def _read_term(many, part):
    """The POWERS and the factor that a part tells, or None if it has not the form."""
    pieces = part.split("*")
    first, *words = pieces
    factor = read_number(first, 2)
    if factor is None:
        return None
    powers = [0] * many
    least = 0
    for word in words:
        told = _read_unknown(word)
        if told is None or not least <= told[0] < many:
            return None
        number, power = told
        powers[number] = power
        least = number + 1
    return tuple(powers), factor


def _read_unknown(word):
    """The number and the power of an unknown, or None if a word has not the form of one."""
    name, sign, told = word.partition("^")
    number = read_number(name[1:], 1)
    power = read_number(told, 2) if sign == "^" else 1
    if not name.startswith("x") or number is None or power is None:
        return None
    if sign == "^" and power < 2:
        return None
    return number, power
