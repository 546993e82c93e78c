"""Live systems: deeds, what they come to, and what is refused ([60], live.py)."""

import random
import unittest

from primezeros.errors import BadField, BadNumber, BadPoint, BadPoly, NothingLeft, TooGreat
from primezeros.live import Live
from primezeros.promises import promise
from tests.helpers import FIELDS, WRONG_FIELDS, constant, plain_points, plain_value, random_poly
from tests.helpers import sample_polys, sample_systems, strange_items, strange_values, unknown

SIGNS = ("zero", "other")
TURNED = {"zero": "other", "other": "zero"}


def plain_holding(field, conditions):
    return tuple(
        point for point in plain_points(field)
        if all((plain_value(field, poly, point) == 0) == (sign == "zero") for poly, sign in conditions)
    )


def plain_after(conditions, deed):
    """Conditions behind a deed, as the document tells it."""
    rows = [list(row) for row in conditions]
    if deed[0] == "put":
        rows.append([deed[1], deed[2]])
    elif deed[0] == "strike":
        del rows[deed[1]]
    else:
        rows[deed[1]][1] = TURNED[rows[deed[1]][1]]
    return tuple(tuple(row) for row in rows)


def do(live, deed):
    """Does a deed, and tells what the call tells."""
    return getattr(live, deed[0])(*deed[1:])


def stand(live):
    """All that a Live tells."""
    return live.field, live.conditions(), live.holding(), live.promise(), len(live)


def random_deed(source, field, conditions):
    """A deed that can be done."""
    kinds = ["put"] * (len(conditions) < 4) + ["strike", "turn", "turn"] * (len(conditions) > 0)
    kind = source.choice(kinds)
    if kind == "put":
        poly = ()
        while not any(sum(powers) for powers, _ in poly):
            poly = random_poly(source, field, 3, field[0])
        return "put", poly, source.choice(SIGNS)
    return kind, source.randrange(len(conditions))


def full(field):
    """A Live with four conditions."""
    live = Live(field)
    for power in (1, 2, 3, 4):
        live.put(unknown(field, 0, power), "zero")
    return live


class Deeds(unittest.TestCase):
    def check(self, live, field, conditions, many):
        self.assertIs(live.field, field)
        self.assertEqual(live.conditions(), conditions)
        self.assertIsInstance(live.conditions(), tuple)
        wanted = plain_holding(field, conditions)
        self.assertEqual(live.holding(), wanted)
        told = None
        if conditions and all(sign == "zero" for _, sign in conditions):
            told = promise(field, tuple(poly for poly, _ in conditions))
        self.assertEqual(live.promise(), told)
        self.assertEqual(len(live), many)
        for point in plain_points(field)[::max(1, field[0] ** field[1] // 9)]:
            self.assertIs(live.holds(point), point in wanted)

    def test_a_new_one(self):
        for field in FIELDS:
            live = Live(field)
            self.check(live, field, (), 0)
            self.assertEqual(live.holding(), plain_points(field))
            self.assertIsNone(live.promise())

    def test_deeds_in_turn(self):
        field = (3, 2)
        live = Live(field)
        one, two, three = unknown(field, 0), unknown(field, 1, 2), tuple(sorted(constant(field, 1) + unknown(field, 1)))
        for deed, conditions in (
            (("put", one, "zero"), ((one, "zero"),)),
            (("put", two, "other"), ((one, "zero"), (two, "other"))),
            (("put", three, "zero"), ((one, "zero"), (two, "other"), (three, "zero"))),
            (("turn", 1), ((one, "zero"), (two, "zero"), (three, "zero"))),
            (("turn", 0), ((one, "other"), (two, "zero"), (three, "zero"))),
            (("strike", 0), ((two, "zero"), (three, "zero"))),
            (("put", two, "other"), ((two, "zero"), (three, "zero"), (two, "other"))),
            (("strike", 1), ((two, "zero"), (two, "other"))),
            (("strike", 1), ((two, "zero"),)),
            (("turn", 0), ((two, "other"),)),
            (("turn", 0), ((two, "zero"),)),
            (("strike", 0), ()),
        ):
            many = len(live) + 1
            self.assertIsNone(do(live, deed))
            self.check(live, field, conditions, many)

    def test_told_points_and_promises(self):
        field = (3, 3)
        live = Live(field)
        live.put((((0, 0, 2), 1), ((0, 2, 0), 1), ((2, 0, 0), 1)), "zero")
        self.assertEqual((len(live.holding()), live.promise()), (9, 1))
        live.turn(0)
        self.assertEqual((len(live.holding()), live.promise()), (18, None))
        self.assertEqual(live.holding()[0], (0, 0, 1))
        live.put(unknown(field, 0), "zero")
        self.assertEqual((len(live.holding()), live.promise()), (8, None))
        live.strike(0)
        self.assertEqual((len(live.holding()), live.promise()), (9, 2))
        live.put(unknown(field, 0), "other")
        self.assertEqual(live.holding(), ())

    def test_random_deeds(self):
        source = random.Random(60)
        for field in FIELDS:
            live = Live(field)
            conditions, many = (), 0
            for _ in range(12):
                deed = random_deed(source, field, conditions)
                conditions, many = plain_after(conditions, deed), many + 1
                self.assertIsNone(do(live, deed))
                self.check(live, field, conditions, many)

    def test_the_same_poly_may_be_put_again(self):
        live = Live((5, 1))
        for sign in ("zero", "other", "zero", "other"):
            live.put((((1,), 2),), sign)
        self.assertEqual(live.conditions(), tuple(((((1,), 2),), sign) for sign in ("zero", "other") * 2))

    def test_systems_as_conditions(self):
        for field in FIELDS:
            for system in sample_systems(field)[:6]:
                live = Live(field)
                for poly in system:
                    live.put(poly, "zero")
                self.assertEqual(live.promise(), promise(field, system))

    def test_two_lives_go_by_themselves(self):
        one, two = Live((3, 2)), Live((3, 2))
        one.put(unknown((3, 2), 0), "zero")
        self.assertEqual(stand(two), stand(Live((3, 2))))
        self.assertEqual(len(one), 1)

    def test_what_is_asked_is_no_deed(self):
        live = full((3, 2))
        before = stand(live)
        for _ in range(3):
            live.holds((0, 0))
            self.assertEqual(stand(live), before)

    def test_the_field_is_not_set(self):
        live = Live((3, 2))
        with self.assertRaises(AttributeError):
            live.field = (2, 1)
        self.assertEqual(live.field, (3, 2))


class Refusals(unittest.TestCase):
    def refused(self, live, error, name, wanted, call):
        """Checks that a call is refused, and leaves all as it was."""
        before, twin = stand(live), live.copy()
        with self.assertRaises(error) as caught:
            call()
        self.assertIs(type(caught.exception), error)
        found = getattr(caught.exception, name)
        if name == "value":
            self.assertIs(found, wanted)
        else:
            self.assertEqual(found, wanted)
        self.assertEqual(stand(live), before)
        self.assertEqual(live, twin)

    def test_a_wrong_field(self):
        for thing, place in WRONG_FIELDS:
            with self.assertRaises(BadField) as caught:
                Live(thing)
            self.assertEqual(caught.exception.place, place)

    def test_put_of_what_is_no_poly(self):
        for field in FIELDS:
            live = Live(field)
            good = unknown(field, 0)
            for thing, place in (
                (None, ()), ([], ()), (list(good), ()), ("1*x0", ()), ((None,), (0,)), (good + good, (1,)),
                (good + (None,), (1,)), (unknown(field, 0, 31), (0,)), (unknown(field, 0, 1, field[0]), (0,)),
                (unknown(field, 0, 1, True), (0,)), (unknown((field[0], field[1] + 1), 0), (0,)),
            ):
                for sign in ("zero", "other", None):
                    self.refused(live, BadPoly, "place", place, lambda: live.put(thing, sign))

    def test_put_of_a_degree_below_one(self):
        for field in FIELDS:
            for live in (Live(field), full(field)):
                for poly in ((), constant(field, 1), constant(field, field[0] - 1)):
                    for sign in ("zero", "other", None, "x"):
                        self.refused(live, BadPoly, "place", (), lambda: live.put(poly, sign))

    def test_put_of_what_is_no_sign(self):
        wrong = strange_values() + strange_items()
        wrong += ["ZERO", "zero ", "others", " other", "zeroother", "0", ("zero",), b"zero"]
        for live in (Live((3, 2)), full((3, 2))):
            for thing in wrong + [["other"], {"zero": 1}]:
                self.refused(live, BadNumber, "value", thing, lambda: live.put(unknown((3, 2), 0), thing))

    def test_strike_and_turn_of_no_number_of_a_condition(self):
        field = (3, 2)
        live = Live(field)
        for many in range(5):
            wrong = strange_values() + strange_items()
            for thing in wrong + ["0", True, False, -1, many, many + 1, 4, (0,), [0], 10 ** 50]:
                if type(thing) is int and 0 <= thing < many:
                    continue
                self.refused(live, BadNumber, "value", thing, lambda: live.strike(thing))
                self.refused(live, BadNumber, "value", thing, lambda: live.turn(thing))
            if many < 4:
                live.put(unknown(field, 0), "zero")

    def test_holds_of_no_point(self):
        for field in ((2, 1), (3, 2), (5, 4)):
            for live in (Live(field), full(field)):
                good = plain_points(field)[0]
                wrong = [list(good), good + (0,), good[1:], (field[0],) * field[1], (-1,) * field[1]]
                for thing in strange_values() + wrong:
                    self.refused(live, BadPoint, "value", thing, lambda: live.holds(thing))

    def test_a_fifth_condition(self):
        for field in ((2, 1), (3, 2), (7, 3)):
            live = full(field)
            for sign in SIGNS:
                self.refused(live, TooGreat, "most", 4, lambda: live.put(unknown(field, 0), sign))
            live.strike(2)
            self.assertIsNone(live.put(unknown(field, 0), "other"))
            self.refused(live, TooGreat, "most", 4, lambda: live.put(unknown(field, 0), "zero"))

    def test_more_than_400_deeds(self):
        field = (3, 2)
        poly = unknown(field, 0)
        live = Live(field)
        live.put(poly, "zero")
        for _ in range(399):
            self.assertIsNone(live.turn(0))
        self.assertEqual(len(live), 400)
        self.refused(live, TooGreat, "most", 400, lambda: live.put(poly, "zero"))
        self.refused(live, TooGreat, "most", 400, lambda: live.strike(0))
        self.refused(live, TooGreat, "most", 400, lambda: live.turn(0))
        # It stands behind all other exceptions.
        self.refused(live, BadPoly, "place", (), lambda: live.put((), None))
        self.refused(live, BadPoly, "place", (0,), lambda: live.put((None,), "zero"))
        self.refused(live, BadNumber, "value", "x", lambda: live.put(poly, "x"))
        self.refused(live, BadNumber, "value", 1, lambda: live.strike(1))
        self.refused(live, BadNumber, "value", None, lambda: live.turn(None))
        live.undo()
        self.assertIsNone(live.strike(0))
        self.refused(live, TooGreat, "most", 400, lambda: live.put(poly, "zero"))
        self.refused(live, BadNumber, "value", 0, lambda: live.turn(0))
        live.undo()
        self.assertIsNone(live.put(poly, "other"))
        self.assertEqual(len(live), 400)

    def test_a_fifth_condition_behind_400_deeds(self):
        field = (2, 1)
        live = full(field)
        for _ in range(396):
            live.turn(3)
        self.refused(live, TooGreat, "most", 4, lambda: live.put(unknown(field, 0), "zero"))
        self.refused(live, TooGreat, "most", 400, lambda: live.turn(0))

    def test_deeds_that_were_taken_back_do_not_count(self):
        live = Live((2, 1))
        for _ in range(500):
            live.put(unknown((2, 1), 0), "zero")
            live.undo()
        self.assertEqual(len(live), 0)
        self.assertEqual(live, Live((2, 1)))


class TakenBack(unittest.TestCase):
    def test_one_deed_after_the_other(self):
        source = random.Random(61)
        for field in FIELDS:
            live = Live(field)
            stands, conditions = [stand(live)], ()
            for _ in range(10):
                deed = random_deed(source, field, conditions)
                do(live, deed)
                conditions = plain_after(conditions, deed)
                stands.append(stand(live))
            while len(stands) > 1:
                self.assertEqual(stand(live), stands.pop())
                self.assertIsNone(live.undo())
            self.assertEqual(stand(live), stands[0])
            self.assertEqual(live, Live(field))

    def test_nothing_left(self):
        live = Live((3, 2))
        for _ in range(2):
            with self.assertRaises(NothingLeft):
                live.undo()
            self.assertEqual(stand(live), stand(Live((3, 2))))
        live.put(unknown((3, 2), 0), "zero")
        live.strike(0)
        live.undo()
        self.assertEqual(live.conditions(), ((unknown((3, 2), 0), "zero"),))
        live.undo()
        with self.assertRaises(NothingLeft):
            live.undo()

    def test_all_of_400_deeds(self):
        live = full((2, 2))
        for _ in range(396):
            live.turn(1)
        for many in range(400, 0, -1):
            self.assertEqual(len(live), many)
            live.undo()
        with self.assertRaises(NothingLeft):
            live.undo()


class Copies(unittest.TestCase):
    def test_a_copy_stands_as_the_other(self):
        source = random.Random(62)
        for field in FIELDS:
            live, conditions = Live(field), ()
            for _ in range(8):
                deed = random_deed(source, field, conditions)
                do(live, deed)
                conditions = plain_after(conditions, deed)
                other = live.copy()
                self.assertIs(type(other), Live)
                self.assertIsNot(other, live)
                self.assertEqual(stand(other), stand(live))
                self.assertTrue(other == live)

    def test_it_goes_on_by_itself(self):
        live = full((3, 2))
        before = stand(live)
        other = live.copy()
        other.strike(0)
        other.turn(1)
        self.assertEqual(stand(live), before)
        self.assertEqual(len(other), 6)
        after = stand(other)
        live.undo()
        live.turn(0)
        live.turn(0)
        self.assertEqual(stand(other), after)
        self.assertFalse(live == other)

    def test_it_is_taken_back_as_far(self):
        live = full((3, 2))
        live.strike(1)
        other = live.copy()
        for _ in range(5):
            other.undo()
            live.undo()
            self.assertEqual(stand(other), stand(live))
        with self.assertRaises(NothingLeft):
            other.undo()
        self.assertEqual(other, Live((3, 2)))
        new = Live((3, 2)).copy()
        with self.assertRaises(NothingLeft):
            new.undo()


class Equals(unittest.TestCase):
    def both(self, one, two, wanted):
        self.assertIs(one == two, wanted)
        self.assertIs(two == one, wanted)
        self.assertIs(one != two, not wanted)
        self.assertIs(two != one, not wanted)

    def test_the_same_deeds(self):
        for field in FIELDS:
            self.both(Live(field), Live(tuple(list(field))), True)
            self.both(full(field), full(field), True)
            one, two = full(field), full(field)
            for live in (one, two):
                live.strike(0)
                live.turn(1)
            self.both(one, two, True)
            self.both(one, one, True)

    def test_other_fields(self):
        for field in FIELDS:
            for other in FIELDS:
                self.both(Live(field), Live(other), field == other)
        one, two = Live((3, 1)), Live((5, 1))
        one.put(unknown((3, 1), 0), "zero")
        two.put(unknown((3, 1), 0), "zero")
        self.both(one, two, False)

    def test_other_deeds(self):
        field = (3, 2)
        for change in (
            lambda live: live.put(unknown(field, 0, 1), "zero"), lambda live: live.put(unknown(field, 0, 2), "zero"),
            lambda live: live.put(unknown(field, 0, 1), "other"), lambda live: live.turn(0),
            lambda live: live.turn(1), lambda live: live.strike(0), lambda live: live.strike(1),
            lambda live: live.undo(),
        ):
            one, two = full(field), full(field)
            one.strike(3)
            two.strike(3)
            change(one)
            self.both(one, two, False)
            change(two)
            self.both(one, two, True)

    def test_the_same_conditions_come_to_otherwise(self):
        field = (3, 2)
        poly = unknown(field, 0)
        one, two = Live(field), Live(field)
        one.put(poly, "other")
        two.put(poly, "zero")
        two.turn(0)
        self.assertEqual(one.conditions(), two.conditions())
        self.both(one, two, False)
        one.turn(0)
        one.turn(0)
        self.both(one, two, False)
        # As many deeds that come to the same, but others on the way.
        one, two = full(field), full(field)
        for number in (0, 1):
            one.turn(number)
            two.turn(1 - number)
        self.assertEqual(stand(one), stand(two))
        self.both(one, two, False)
        one, two = Live(field), Live(field)
        for live, sign in ((one, "zero"), (two, "other")):
            live.put(poly, sign)
            live.strike(0)
        self.assertEqual(stand(one), stand(two))
        self.both(one, two, False)

    def test_deeds_that_were_taken_back(self):
        one, two = full((3, 2)), full((3, 2))
        one.strike(0)
        self.both(one, two, False)
        one.undo()
        self.both(one, two, True)

    def test_other_things(self):
        for live in (Live((3, 2)), full((3, 2))):
            for thing in strange_values() + [(3, 2), live.conditions(), live.field, len(live), Live, ((3, 2), ())]:
                self.both(live, thing, False)

    def test_another_operator(self):
        live = full((3, 2))
        for thing in (0, 1, None, "x", (), [], {}, live, Live((3, 2)), live.conditions()):
            for call in (
                lambda: live < thing, lambda: live <= thing, lambda: live > thing, lambda: live >= thing,
                lambda: live + thing, lambda: thing + live, lambda: live - thing, lambda: live * thing,
                lambda: thing * live, lambda: live // thing, lambda: live ** thing, lambda: live & thing,
                lambda: live | thing, lambda: live ^ thing, lambda: live << thing, lambda: thing in live,
                lambda: live[0], lambda: -live, lambda: ~live, lambda: list(live),
            ):
                with self.assertRaises(TypeError):
                    call()
        self.assertEqual(stand(live), stand(full((3, 2))))


class Whole(unittest.TestCase):
    def test_every_poly_of_the_samples(self):
        for field in ((2, 1), (2, 4), (3, 3), (5, 2), (7, 2)):
            for poly in sample_polys(field):
                live = Live(field)
                if any(sum(powers) for powers, _ in poly):
                    for sign in SIGNS:
                        live.put(poly, sign)
                        self.assertEqual(live.holding(), plain_holding(field, ((poly, sign),)))
                        live.strike(0)
                else:
                    with self.assertRaises(BadPoly):
                        live.put(poly, "zero")
