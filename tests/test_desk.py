"""A desk: its lines and its answers ([70], desk.py)."""

import random
import unittest

from primezeros.desk import Desk
from primezeros.errors import BadField
from primezeros.live import Live
from primezeros.texts import point_text, poly_text
from tests.helpers import FIELDS, WRONG_FIELDS, most_terms, plain_points, random_poly, sample_polys
from tests.helpers import strange_items, strange_values, unknown


def said(desk, lines):
    """The answers to some lines, one after the other."""
    return [desk.say(line) for line in lines]


def begun(field=(3, 2)):
    """A desk with two conditions and three deeds."""
    desk = Desk(field)
    for line in ("zero 1*x0^2 + 2", "other 1*x0 + 2", "turn 1"):
        desk.say(line)
    return desk


class Answers(unittest.TestCase):
    def test_a_new_desk(self):
        for field in FIELDS:
            desk = Desk(field)
            self.assertEqual(desk.say("field"), f"{field[0]} {field[1]}")
            self.assertEqual(desk.say("many"), str(field[0] ** field[1]))
            self.assertEqual(desk.say("first"), " ".join(["0"] * field[1]))
            self.assertEqual(desk.say("conditions"), "0")
            self.assertEqual(desk.say("promise"), "none")
            self.assertEqual(desk.say("condition 0"), "no")
            self.assertEqual(desk.say("strike 0"), "no")
            self.assertEqual(desk.say("turn 0"), "no")
            self.assertEqual(desk.say("undo"), "no")
            self.assertEqual(desk.live, Live(field))

    def test_a_round_of_lines(self):
        desk = Desk((3, 3))
        for line, answer in (
            ("zero 1*x0^2 + 1*x1^2 + 1*x2^2", "done"), ("many", "9"), ("first", "0 0 0"), ("promise", "1"),
            ("conditions", "1"), ("condition 0", "zero 1*x2^2 + 1*x1^2 + 1*x0^2"), ("holds 1 1 1", "yes"),
            ("holds 0 0 1", "not"), ("turn 0", "done"), ("many", "18"), ("first", "0 0 1"), ("promise", "none"),
            ("condition 0", "other 1*x2^2 + 1*x1^2 + 1*x0^2"), ("holds 0 0 1", "yes"), ("holds 0 0 0", "not"),
            ("other 2*x0", "done"), ("conditions", "2"), ("condition 1", "other 2*x0"), ("many", "10"),
            ("first", "1 0 0"), ("strike 0", "done"), ("condition 0", "other 2*x0"), ("condition 1", "no"),
            ("many", "18"), ("turn 0", "done"), ("promise", "2"), ("undo", "done"), ("promise", "none"),
            ("undo", "done"), ("conditions", "2"), ("many", "10"), ("zero 2*x0", "done"), ("many", "0"),
            ("first", "none"), ("undo", "done"), ("undo", "done"), ("undo", "done"), ("conditions", "1"),
            ("undo", "done"), ("conditions", "0"), ("undo", "no"), ("field", "3 3"),
        ):
            self.assertEqual(desk.say(line), answer, line)
        self.assertEqual(len(desk.live), 0)

    def test_each_point(self):
        for field in FIELDS:
            desk = Desk(field)
            desk.say("other 1*x0 + 1" if field[0] == 2 else "other 1*x0^2 + 1*x0")
            holding = desk.live.holding()
            self.assertEqual(desk.say("many"), str(len(holding)))
            self.assertEqual(desk.say("first"), point_text(field, holding[0]))
            for point in plain_points(field)[::max(1, field[0] ** field[1] // 60)]:
                wanted = "yes" if point in holding else "not"
                self.assertEqual(desk.say("holds " + " ".join(str(item) for item in point)), wanted)

    def test_many_and_first_where_none_holds(self):
        for field in FIELDS:
            desk = Desk(field)
            self.assertEqual(said(desk, ["zero 1*x0", "other 1*x0", "many", "first"]), ["done", "done", "0", "none"])

    def test_each_text_of_a_poly(self):
        for field in FIELDS:
            desk = Desk(field)
            for poly in sample_polys(field):
                fit = any(sum(powers) for powers, _ in poly)
                text = poly_text(field, poly)
                for sign in ("zero", "other"):
                    self.assertEqual(desk.say(f"{sign} {text}"), "done" if fit else "no")
                    self.assertEqual(desk.say("condition 0"), f"{sign} {text}" if fit else "no")
                    self.assertEqual(desk.live.conditions(), ((poly, sign),) if fit else ())
                    self.assertEqual(desk.say("strike 0"), "done" if fit else "no")

    def test_the_promise(self):
        for field in FIELDS:
            desk = Desk(field)
            desk.say("zero 1*x0")
            self.assertEqual(desk.say("promise"), str(field[1] - 1))
            desk.say("zero 1*x0^2")
            self.assertEqual(desk.say("promise"), str(desk.live.promise()))
            desk.say("turn 0")
            self.assertEqual(desk.say("promise"), "none")
            desk.say("turn 0")
            desk.say("other 1*x0")
            self.assertEqual(desk.say("promise"), "none")
        self.assertEqual(said(Desk((2, 4)), ["zero 1*x0^2", "promise"]), ["done", "1"])
        self.assertEqual(said(Desk((2, 4)), ["zero 1*x0", "zero 1*x1", "promise"]), ["done", "done", "2"])
        self.assertEqual(said(Desk((2, 4)), ["zero 1*x0^5", "promise"]), ["done", "0"])

    def test_it_goes_as_a_live_system(self):
        source = random.Random(70)
        for field in FIELDS:
            desk, live = Desk(field), Live(field)
            for _ in range(15):
                many = len(live.conditions())
                kind = source.choice(["put", "put", "strike", "turn", "undo"])
                if kind == "put" and many < 4:
                    poly = unknown(field, 0, 2) if many else tuple(sorted(
                        set(unknown(field, 0)) | set(random_poly(source, field, 1, 0))))
                    sign = source.choice(("zero", "other"))
                    live.put(poly, sign)
                    self.assertEqual(desk.say(f"{sign} {poly_text(field, poly)}"), "done")
                elif kind in ("strike", "turn") and many:
                    number = source.randrange(many)
                    (live.strike if kind == "strike" else live.turn)(number)
                    self.assertEqual(desk.say(f"{kind} {number}"), "done")
                elif kind == "undo" and len(live):
                    live.undo()
                    self.assertEqual(desk.say("undo"), "done")
                self.assertEqual(desk.live, live)
                self.assertEqual(desk.say("conditions"), str(len(live.conditions())))
                self.assertEqual(desk.say("many"), str(len(live.holding())))

    def test_equal_desks_answer_alike(self):
        lines = ["zero 1*x0", "many", "turn 0", "many", "first", "x", "undo", "condition 0", "undo", "undo"]
        self.assertEqual(said(Desk((5, 2)), lines), said(Desk((5, 2)), lines))


class NoLines(unittest.TestCase):
    def unchanged(self, desk, line):
        """Checks that a line is answered with "no", and nothing has changed."""
        live, twin = desk.live, desk.live.copy()
        self.assertEqual(desk.say(line), "no", repr(line)[:60])
        self.assertIs(desk.live, live)
        self.assertEqual(desk.live, twin)
        self.assertEqual(len(desk.live), len(twin))
        self.assertEqual(desk.live.conditions(), twin.conditions())

    def test_no_string(self):
        for thing in strange_values() + strange_items() + [b"undo", b"many", ["undo"], ("many",), {"undo": 1}]:
            self.unchanged(begun(), thing)

    def test_lines_that_are_none(self):
        desk = begun()
        words = ("undo", "many", "first", "conditions", "promise", "field")
        for word in words:
            for line in (
                word + " ", " " + word, word + "\n", "\n" + word, word.upper(), word.title(), word + " 0", word + " x",
                word + word, word + "s", word[:-1], word + "  ", word + ".", word + " " + word,
            ):
                if line not in words:
                    self.unchanged(desk, line)
        for line in (
            "", " ", "  ", "\n", "0", "1*x0", "x", "no", "done", "none", "yes", "not", "help", "copy", "live", "trial",
            "put", "holding", "say", "len", "put 1*x0", "zero", "other", "strike", "turn", "condition", "holds",
            "zero other 1*x0", "zero: 1*x0", "Zero 1*x0", "ZERO 1*x0", "zeros 1*x0", "zero\n1*x0", "zero1*x0",
            "a" * 20000,
        ):
            self.unchanged(desk, line)

    def test_spaces_too_many(self):
        desk = begun()
        for line in (
            "zero  1*x0", "zero 1*x0 ", " zero 1*x0", "zero ", "zero  ", "zero 1*x0\n", "zero 1*x0  + 1", "other  1*x0",
            "strike  0", "strike 0 ", " strike 0", "strike ", "turn  0", "turn 0 ", " turn 0", "turn ", "turn 0\n",
            "condition  0", "condition 0 ", "condition ", " condition 0", "condition 0\n", "holds  0 0", "holds 0  0",
            "holds 0 0 ", " holds 0 0", "holds ", "holds 0 0\n", "holds  ",
        ):
            self.unchanged(desk, line)

    def test_numbers_that_are_none(self):
        desk = begun()
        for word in ("strike", "turn", "condition"):
            for text in (
                "2", "3", "4", "9", "-1", "+1", "00", "01", "10", "11", "a", "x", "zero", "None", "True", "0.", "0 1",
                "0,1", "\u0660", "\u00b9", "1_", "9" * 999, "1*x0", "",
            ):
                self.unchanged(desk, f"{word} {text}")

    def test_points_that_are_none(self):
        for field in FIELDS:
            desk = begun(field)
            good = ["0"] * field[1]
            wrong = (str(field[0]), "9", "00", "01", "-1", "+1", "", " ", "a", "0.0", "True", "\u0660", "10", "0,0")
            for at in range(field[1]):
                for item in wrong:
                    self.unchanged(desk, "holds " + " ".join(good[:at] + [item] + good[at + 1:]))
            self.unchanged(desk, "holds " + " ".join(good + ["0"]))
            self.unchanged(desk, "holds" + " ".join(good))
            self.unchanged(desk, "holds " + " ".join(good[1:]))
            self.unchanged(desk, "holds (" + ", ".join(good) + ")")
            self.unchanged(desk, "holds " + ",".join(good) + ",")
            if field[1] > 1:
                self.unchanged(desk, "holds " + "".join(good))

    def test_polys_that_are_none(self):
        for field in FIELDS:
            desk = begun(field)
            for text in (
                "0", "1", "", "x0", "0*x0", "1*x4", "1*x0^1", "1*x0^31", "01*x0", "1*x0 + 1*x0", "1*x0 + 0", "1*x0+1",
                str(field[0]) + "*x0", "99*x0", "1*x0 + " + str(field[0]), f"1*x{field[1]}", "-1*x0", "zero 1*x0",
            ):
                self.unchanged(desk, "zero " + text)
                self.unchanged(desk, "other " + text)
        text = poly_text((2, 2), most_terms((2, 2)))
        self.unchanged(begun((2, 2)), "zero " + text + " + 1*x0")

    def test_exceptions_of_the_package(self):
        desk = begun()
        desk.say("zero 1*x1")
        desk.say("zero 1*x1")
        self.assertEqual(desk.say("conditions"), "4")
        self.unchanged(desk, "zero 1*x0")
        self.unchanged(desk, "other 1*x0")
        while len(desk.live) < 400:
            self.assertEqual(desk.say("turn 3"), "done")
        self.unchanged(desk, "turn 3")
        self.unchanged(desk, "strike 0")
        self.unchanged(desk, "zero 1*x0")
        lines = ["undo", "strike 0", "zero 1*x0", "undo", "undo"]
        self.assertEqual(said(desk, lines), ["done", "done", "no", "done", "done"])
        self.assertEqual(len(desk.live), 398)
        new = Desk((3, 2))
        self.unchanged(new, "undo")

    def test_all_of_it_taken_back(self):
        desk = begun()
        self.assertEqual(said(desk, ["undo"] * 5), ["done"] * 3 + ["no"] * 2)
        self.assertEqual(desk.live, Live((3, 2)))

    def test_what_is_asked_is_no_deed(self):
        desk = begun()
        twin = desk.live.copy()
        for line in ("many", "first", "conditions", "condition 0", "condition 1", "holds 0 0", "promise", "field"):
            self.assertNotEqual(desk.say(line), "no")
            self.assertEqual(desk.live, twin)


class Desks(unittest.TestCase):
    def test_a_wrong_field(self):
        for thing, place in WRONG_FIELDS:
            with self.assertRaises(BadField) as caught:
                Desk(thing)
            self.assertEqual(caught.exception.place, place)

    def test_the_very_live(self):
        desk = Desk((3, 2))
        live = desk.live
        self.assertIs(type(live), Live)
        desk.say("zero 1*x0")
        self.assertIs(desk.live, live)
        self.assertEqual(live.conditions(), ((unknown((3, 2), 0), "zero"),))
        with self.assertRaises(AttributeError):
            desk.live = Live((3, 2))

    def test_the_live_is_led_itself(self):
        desk = Desk((3, 2))
        desk.live.put(unknown((3, 2), 0), "other")
        self.assertEqual(said(desk, ["conditions", "condition 0", "many"]), ["1", "other 1*x0", "6"])
        with desk.live.trial():
            lines = ["strike 0", "conditions", "undo", "undo", "undo"]
            self.assertEqual(said(desk, lines), ["done", "0", "done", "done", "no"])
        self.assertEqual(said(desk, ["conditions", "condition 0"]), ["1", "other 1*x0"])
        desk.live.undo()
        self.assertEqual(said(desk, ["conditions", "undo"]), ["0", "no"])

    def test_two_desks_go_by_themselves(self):
        one, two = Desk((3, 2)), Desk((3, 2))
        self.assertEqual(one.say("zero 1*x0"), "done")
        self.assertEqual(two.say("conditions"), "0")
        self.assertIsNot(one.live, two.live)

    def test_operators(self):
        desk = begun()
        for thing in strange_values() + [desk.live, begun()]:
            self.assertIs(desk == thing, False)
            self.assertIs(desk != thing, True)
            for call in (lambda: desk < thing, lambda: desk + thing, lambda: thing in desk, lambda: len(desk)):
                with self.assertRaises(TypeError):
                    call()

    def test_by_name(self):
        desk = Desk(field=(5, 2))
        self.assertEqual(desk.say(line="field"), "5 2")
