"""Texts of POLYS and POINTS ([65], [66], texts.py)."""

import itertools
import random
import unittest

from primezeros.errors import BadField, BadPoint, BadPoly, BadText
from primezeros.texts import point_text, poly_text, read_poly
from tests.helpers import FIELDS, WRONG_FIELDS, constant, most_terms, plain_points, random_poly
from tests.helpers import sample_polys, strange_items, strange_values, unknown


def plain_text(poly):
    """The text as the document tells it."""
    terms = []
    for powers, factor in poly:
        term = str(factor)
        for number, power in enumerate(powers):
            if power == 1:
                term += "*x" + str(number)
            elif power > 1:
                term += "*x" + str(number) + "^" + str(power)
        terms.append(term)
    return " + ".join(terms) if terms else "0"


def bad_text(field, text):
    """The part for which read_poly refuses a text as BadText; "other" if it does not so."""
    try:
        read_poly(field, text)
    except BadText as error:
        return error.part
    except BadPoly:
        return "other"
    return "other"


def bad_poly(field, text):
    """The place at which read_poly refuses a text as BadPoly, or None."""
    try:
        read_poly(field, text)
    except BadPoly as error:
        return error.place
    return None


class PolyText(unittest.TestCase):
    def test_told_texts(self):
        self.assertEqual(poly_text((3, 2), (((0, 0), 2), ((2, 1), 1))), "2 + 1*x0^2*x1")
        self.assertEqual(poly_text((3, 2), ()), "0")
        self.assertEqual(poly_text((3, 2), (((0, 0), 1),)), "1")
        self.assertEqual(poly_text((7, 1), (((1,), 6),)), "6*x0")
        self.assertEqual(poly_text((7, 1), (((0,), 3), ((10,), 6), ((30,), 5))), "3 + 6*x0^10 + 5*x0^30")
        self.assertEqual(poly_text((2, 4), (((0, 0, 0, 1), 1), ((1, 2, 3, 4), 1))), "1*x3 + 1*x0*x1^2*x2^3*x3^4")
        self.assertEqual(poly_text((5, 4), (((30, 0, 0, 30), 4),)), "4*x0^30*x3^30")

    def test_all_kinds_of_polys(self):
        for field in FIELDS:
            for poly in sample_polys(field):
                self.assertEqual(poly_text(field, poly), plain_text(poly))

    def test_a_wrong_poly(self):
        for field in FIELDS:
            for thing, place in ((None, ()), ([], ()), ((None,), (0,)), (constant(field, 1) * 2, (1,))):
                with self.assertRaises(BadPoly) as caught:
                    poly_text(field, thing)
                self.assertEqual(caught.exception.place, place)


class PointText(unittest.TestCase):
    def test_each_point(self):
        for field in FIELDS:
            for point in plain_points(field):
                self.assertEqual(point_text(field, point), " ".join(str(item) for item in point))
        self.assertEqual(point_text((7, 3), (6, 0, 2)), "6 0 2")
        self.assertEqual(point_text((2, 1), (1,)), "1")

    def test_a_wrong_point(self):
        for field in FIELDS:
            good = plain_points(field)[-1]
            for thing in strange_values() + [good[1:], good + (0,), list(good), (field[0],) * field[1], "0 0"]:
                if thing in ((2, 1),) and field in ((3, 2), (5, 2), (7, 2)):
                    continue
                with self.assertRaises(BadPoint) as caught:
                    point_text(field, thing)
                self.assertIs(caught.exception.value, thing)


class ReadPoly(unittest.TestCase):
    def test_each_text_again(self):
        for field in FIELDS:
            for poly in sample_polys(field):
                told = read_poly(field, poly_text(field, poly))
                self.assertEqual(told, poly)
                self.assertIsInstance(told, tuple)

    def test_terms_in_any_order(self):
        source = random.Random(65)
        for field in FIELDS:
            for poly in sample_polys(field) + [random_poly(source, field, 6)]:
                parts = plain_text(poly).split(" + ")
                for _ in range(3):
                    source.shuffle(parts)
                    self.assertEqual(read_poly(field, " + ".join(parts)), poly)
                self.assertEqual(read_poly(field, " + ".join(reversed(parts))), poly)

    def test_told_texts(self):
        self.assertEqual(read_poly((3, 2), "0"), ())
        self.assertEqual(read_poly((3, 2), "1"), constant((3, 2), 1))
        self.assertEqual(read_poly((3, 2), "1*x0^2*x1 + 2"), (((0, 0), 2), ((2, 1), 1)))
        self.assertEqual(read_poly((5, 4), "4*x0^2*x3^30 + 3*x2 + 1"), (
            ((0, 0, 0, 0), 1), ((0, 0, 1, 0), 3), ((2, 0, 0, 30), 4)))
        # What is read is not reduced.
        self.assertEqual(read_poly((2, 1), "1*x0^2 + 1*x0"), (((1,), 1), ((2,), 1)))

    def test_seven_hundred_terms(self):
        for field in ((2, 2), (3, 4), (5, 4)):
            text = plain_text(most_terms(field))
            self.assertEqual(text.count(" + "), 699)
            self.assertEqual(read_poly(field, text), most_terms(field))


class NoText(unittest.TestCase):
    def test_no_string(self):
        for thing in strange_values() + strange_items() + [b"0", b"1*x0", ["0"], ("1*x0",), {"0": 1}]:
            if isinstance(thing, str):
                continue
            with self.assertRaises(BadText) as caught:
                read_poly((3, 2), thing)
            self.assertIsNone(caught.exception.part)

    def test_strings_of_other_things(self):
        for text in ("", "x", "(2, 1)", "x" * 20000, "a", "[]", "None", "True", "0.5", "-0", "one", "\n", "*", "^"):
            self.assertEqual(bad_text((3, 2), text), 0)

    # Each has not the form, whatever stands beside it.
    WRONG_PARTS = (
        "", " ", "-1", "+1", "+", "-1*x0", "1.0", "1/2", "a", "x", "x0", "x0*2", "*x0", "1x0", "1 x0", "1*", "1**x0",
        "00", "01", "02*x0", "001", "100", "100*x0", "1*x00", "1*x01", "1*x0^02", "1*x0^002", "1*x0^100", "1*x0^999",
        "1*x0^0", "1*x0^1", "1*x0^00", "1*x0^", "1*x^2", "1*x", "1*0", "1*2", "1*X0", "1*y0", "1*x0^-2", "1*x0^+2",
        "1*x0^x1", "1*x0^2^2", "1*x0^2^", "1^2", "1^2*x0", "1*x-1", "1*x0x1", "1*x0 *x1", "1 *x0", "1* x0", "1*x 0",
        "1*x0 ^2", "1*x0^ 2", " 1", "1 ", "1*x0 ", " 1*x0", "1\n", "\n1", "1*x0\n", "1*x0^2\n", "1*x1*x0", "1*x0*x0",
        "1*x0^2*x0", "1*x0*x0^2", "1*x1^2*x0^2", "1*x9", "1*x4", "1*x10", "1*x", "1_0", "1*x0^1_0", "0x1", "1e1",
        "1*xx0", "1*x0**x1", "1*x0*", "1*x0*2", "1*x0^2x1", "(1)", "1*(x0)", "1+1", "1 - 1", "1 +1*x0",
        "1*x0^2.", "1,", "1*x0,1", "\u0661", "1*x0^\u00b2", "1*x\u0660", "\u00b2",
    )

    def test_each_wrong_part_at_each_place(self):
        for field in FIELDS:
            if field[1] < 2:
                continue
            good = ["1", "1*x0", "1*x0^2", "1*x0*x1", "1*x1^30"]
            for part in self.WRONG_PARTS:
                self.assertEqual(bad_text(field, part), 0, part)
                for number in (0, 2, 5):
                    parts = good[:number] + [part] + good[number:]
                    self.assertEqual(bad_text(field, " + ".join(parts)), number, part)

    def test_each_figure_that_is_none(self):
        for code in list(range(32, 127)) + [10]:
            sign = chr(code)
            if sign not in "0123456789":
                self.assertEqual(bad_text((7, 2), sign), 0)
                self.assertEqual(bad_text((7, 2), "1" + sign), 0)
                self.assertEqual(bad_text((7, 2), "1*x" + sign), 0)
                self.assertEqual(bad_text((7, 2), "1*x0^" + sign), 0)
                self.assertEqual(bad_text((7, 2), "1*x0^2" + sign), 0)
                self.assertEqual(bad_text((7, 2), "1*x0^" + sign + "2"), 0)
                self.assertEqual(bad_text((7, 2), "1 + " + sign), 1)
            if sign != "x":
                self.assertEqual(bad_text((7, 2), "1*" + sign + "0"), 0)
            if sign != "*":
                self.assertEqual(bad_text((7, 2), "1" + sign + "x0"), 0)
            if sign != "^" and not sign.isdigit():
                self.assertEqual(bad_text((7, 2), "1*x0" + sign + "3"), 0)
            if sign != "+":
                self.assertEqual(bad_text((7, 2), "1 " + sign + " 1*x0"), 0)

    def test_an_unknown_of_another_field(self):
        for field in FIELDS:
            for number in range(12):
                wanted = "other" if number < field[1] else 1
                self.assertEqual(bad_text(field, f"1 + 1*x{number}"), wanted)
                self.assertEqual(bad_text(field, f"1 + 1*x{number}^7"), wanted)

    def test_unknowns_out_of_order(self):
        field = (2, 4)
        for many in (2, 3, 4):
            for numbers in itertools.product(range(4), repeat=many):
                ascending = all(one < two for one, two in zip(numbers, numbers[1:]))
                text = "1" + "".join(f"*x{number}" for number in numbers)
                self.assertEqual(bad_text(field, text), "other" if ascending else 0)

    def test_nought_beside_others_has_the_form(self):
        for field in FIELDS:
            self.assertEqual(read_poly(field, "0"), ())
            for text, part in (
                ("0 + x", 1), ("x + 0", 0), ("0 + 07", 1), ("0 + 00", 1), ("00 + 0", 0), ("0 + 0 + 01", 2),
                ("1*x0 + 0 + x", 2), ("0 + ", 1), (" + 0", 0), ("0 + 0 ", 1), ("0 + 1*x0^1", 1), ("0 0", 0),
            ):
                self.assertEqual(bad_text(field, text), part, text)

    def test_spaces_and_signs_between(self):
        field = (3, 2)
        for text, part in (
            ("1+1*x0", 0), ("1 +1*x0", 0), ("1+ 1*x0", 0), ("1  + 1*x0", 0), ("1 +  1*x0", 1), ("1 + ", 1),
            (" + 1", 0), (" + ", 0), ("1 + + 1*x0", 1), ("1 +  + 1*x0", 1), ("1 + 1*x0 ", 1), (" 1 + 1*x0", 0),
            ("1 + 1*x0 + ", 2), ("1 - 1*x0", 0), ("1 + -1*x0", 1), ("1\n+ 1*x0", 0), ("1 + 1*x0\n", 1),
            ("1 + 1*x0\n1*x1", 1), ("+ 1", 0), ("1 +", 0),
        ):
            self.assertEqual(bad_text(field, text), part, repr(text))

    def test_the_first_part_that_cannot_stand_there(self):
        self.assertEqual(bad_text((3, 2), "1 + x + 01"), 1)
        self.assertEqual(bad_text((3, 2), "01 + x + 1"), 0)
        # The form of a later part is ahead of what is wrong behind the form.
        self.assertEqual(bad_text((3, 2), "1 + 1 + x"), 2)
        self.assertEqual(bad_text((3, 2), "0*x0 + 99*x1^99 + 1*x2"), 2)
        self.assertEqual(bad_text((3, 2), " + ".join(["1"] * 900 + ["1*x0^1"])), 900)


class BehindTheForm(unittest.TestCase):
    def test_powers_that_stand_twice(self):
        for field in FIELDS:
            self.assertEqual(bad_text(field, "1 + 1"), 1)
            self.assertEqual(bad_text(field, "1*x0 + 1 + 1*x0^2 + 1*x0 + 1"), 3)
            self.assertEqual(bad_text(field, "1*x0 + 1 + 1 + 1*x0"), 2)
            self.assertEqual(bad_text(field, "1*x0^30 + 1*x0^2 + 1*x0^3 + 1*x0^2"), 3)
        self.assertEqual(bad_text((3, 3), "1*x0*x2 + 1*x0 + 2*x0*x2 + 1*x0"), 2)

    def test_they_go_ahead_of_what_is_no_poly(self):
        for field in FIELDS:
            self.assertEqual(bad_text(field, "0*x0 + 0*x0"), 1)
            self.assertEqual(bad_text(field, "99 + 1*x0^99 + 0*x0^99"), 2)
            self.assertEqual(bad_text(field, "1 + 99 + 1*x0^31"), 1)
        text = plain_text(most_terms((2, 2), 701))
        self.assertEqual(bad_text((2, 2), text + " + " + text), 701)

    def test_a_factor_that_is_nought(self):
        for field in FIELDS:
            self.assertEqual(bad_poly(field, "0*x0"), (0,))
            self.assertEqual(bad_poly(field, "0*x0^30"), (0,))
            self.assertEqual(bad_poly(field, "1 + 0*x0"), (1,))
            self.assertEqual(bad_poly(field, "0*x0 + 1"), (1,))
            self.assertEqual(bad_poly(field, "1*x0^2 + 0*x0 + 1"), (1,))
            self.assertEqual(bad_poly(field, "0*x0 + 0*x0^2 + 1*x0^3"), (0,))

    def test_nought_beside_others(self):
        for field in FIELDS:
            # Its POWERS are those of the constant term.
            for text, part in (
                ("0 + 1", 1), ("1 + 0", 1), ("0 + 0", 1), ("0 + 0 + 0", 1), ("0 + 99", 1), ("1*x0 + 0 + 0*x0", 2),
                ("1*x0 + 1 + 0 + 1*x0^2", 2), ("0 + 1*x0 + 1*x0^2 + 1", 3), ("0 + 1*x0^99 + 1*x0^99 + 0", 2),
            ):
                self.assertEqual(bad_text(field, text), part, text)
            # No other term is ahead of it.
            for text in (
                "1*x0 + 0", "0 + 1*x0", "0 + 0*x0", "1*x0^2 + 0 + 1*x0", "99*x0 + 0", "0 + 1*x0^99", "1*x0^30 + 0",
            ):
                self.assertEqual(bad_poly(field, text), (0,), text)
        self.assertEqual(bad_poly((2, 2), plain_text(most_terms((2, 2), 701)[1:]) + " + 0"), ())

    def test_a_factor_of_p_or_more(self):
        for field in FIELDS:
            for factor in range(1, 100):
                place = None if factor < field[0] else (0,)
                self.assertEqual(bad_poly(field, str(factor)), place)
                self.assertEqual(bad_poly(field, f"{factor}*x0"), place)
                self.assertEqual(bad_poly(field, f"{factor}*x0^2 + 1*x0 + 1"), None if place is None else (2,))

    def test_a_power_above_thirty(self):
        for field in FIELDS:
            for power in range(2, 100):
                place = None if power <= 30 else (0,)
                self.assertEqual(bad_poly(field, f"1*x0^{power}"), place)
                wanted = None if power <= 30 else (1,)
                self.assertEqual(bad_poly(field, f"1*x0^{power} + 1"), wanted)

    def test_the_place_is_that_among_the_terms_in_order(self):
        self.assertEqual(bad_poly((3, 2), "5*x0 + 1 + 3*x1 + 2*x0*x1"), (1,))
        self.assertEqual(bad_poly((3, 2), "1*x0^31 + 4 + 1*x1"), (0,))
        self.assertEqual(bad_poly((3, 2), "2*x0^2 + 1*x1^31 + 1*x0"), (0,))
        self.assertEqual(bad_poly((3, 2), "1*x0*x1^31 + 1*x1 + 1"), (2,))

    def test_more_than_seven_hundred_terms(self):
        for field in ((2, 2), (3, 4), (7, 3)):
            self.assertIsNone(bad_poly(field, plain_text(most_terms(field))))
            self.assertEqual(bad_poly(field, plain_text(most_terms(field, 701))), ())
            # That there are too many is ahead of what is wrong with one of them.
            self.assertEqual(bad_poly(field, plain_text(most_terms(field)) + " + 99*x0"), ())


class WrongFields(unittest.TestCase):
    def test_ahead_of_all(self):
        for thing, place in WRONG_FIELDS:
            for call in (
                lambda: poly_text(thing, ()), lambda: poly_text(thing, None), lambda: point_text(thing, (0,)),
                lambda: point_text(thing, None), lambda: read_poly(thing, "0"), lambda: read_poly(thing, None),
                lambda: read_poly(thing, "x"), lambda: read_poly(thing, "0*x0"),
            ):
                with self.assertRaises(BadField) as caught:
                    call()
                self.assertEqual(caught.exception.place, place)

    def test_texts_of_another_field(self):
        text = poly_text((7, 3), unknown((7, 3), 2, 5, 6))
        self.assertEqual(text, "6*x2^5")
        self.assertEqual(bad_text((7, 2), text), 0)
        self.assertEqual(bad_poly((5, 4), text), (0,))
