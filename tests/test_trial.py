"""Trials of live systems: behind the block all is as it was ([60], live.py)."""

import unittest

from primezeros.errors import BadNumber, BadPoly, NothingLeft, TooGreat
from primezeros.live import Live, under
from tests.helpers import unknown

FIELD = (3, 2)


def begun():
    """A Live with two conditions and three deeds."""
    live = Live(FIELD)
    live.put(unknown(FIELD, 0), "zero")
    live.put(unknown(FIELD, 1), "other")
    live.turn(1)
    return live


class OwnEnd(BaseException):
    """An exception that stands under BaseException alone."""


class Trials(unittest.TestCase):
    def as_begun(self, live):
        """Checks that a Live is as it was, also what can be taken back."""
        self.assertEqual(live, begun())
        self.assertEqual(live.conditions(), begun().conditions())
        self.assertEqual(live.holding(), begun().holding())
        self.assertEqual(len(live), 3)
        other, wanted = live.copy(), begun()
        for _ in range(3):
            other.undo()
            wanted.undo()
            self.assertEqual(other.conditions(), wanted.conditions())
        with self.assertRaises(NothingLeft):
            other.undo()

    def test_the_block_gets_the_live_system_itself(self):
        live = begun()
        with live.trial() as same:
            self.assertIs(same, live)
        self.as_begun(live)

    def test_deeds_within(self):
        live = begun()
        with live.trial() as same:
            same.strike(0)
            same.turn(0)
            same.put(unknown(FIELD, 1, 2), "zero")
            self.assertEqual(len(live), 6)
            self.assertEqual(live.conditions(), ((unknown(FIELD, 1), "other"), (unknown(FIELD, 1, 2), "zero")))
        self.as_begun(live)
        live.turn(0)
        self.assertEqual(len(live), 4)

    def test_undo_within(self):
        live = begun()
        with live.trial() as same:
            same.turn(0)
            for _ in range(4):
                same.undo()
            self.assertEqual(live, Live(FIELD))
            same.put(unknown(FIELD, 1), "zero")
        self.as_begun(live)
        with live.trial() as same:
            same.undo()
            same.undo()
        self.as_begun(live)

    def test_an_exception_of_any_class_passes(self):
        for error in (
            ValueError("x"), KeyError(1), TypeError(), BadPoly(()), NothingLeft(), TooGreat(4), AssertionError(),
            StopIteration(), GeneratorExit(), KeyboardInterrupt(), SystemExit(3), MemoryError(), OwnEnd(), Exception(),
        ):
            live = begun()
            with self.assertRaises(type(error)) as caught:
                with live.trial() as same:
                    same.strike(0)
                    same.strike(0)
                    raise error
            self.assertIs(caught.exception, error)
            self.as_begun(live)

    def test_exceptions_of_the_deeds_pass(self):
        live = begun()
        with self.assertRaises(BadNumber):
            with live.trial() as same:
                same.strike(0)
                same.turn(1)
        self.as_begun(live)
        with self.assertRaises(NothingLeft):
            with live.trial() as same:
                while True:
                    same.undo()
        self.as_begun(live)

    def test_ends_of_blocks_by_other_ways(self):
        live = begun()
        for _ in range(2):
            with live.trial():
                live.strike(0)
                continue
        self.as_begun(live)
        while True:
            with live.trial():
                live.strike(1)
                break
        self.as_begun(live)

        def told():
            with live.trial() as same:
                same.strike(0)
                return same.conditions()

        self.assertEqual(told(), ((unknown(FIELD, 1), "zero"),))
        self.as_begun(live)

    def test_one_trial_within_another(self):
        live = begun()
        with live.trial() as outer:
            outer.strike(0)
            before = outer.copy()
            with outer.trial() as inner:
                self.assertIs(inner, live)
                inner.turn(0)
                with inner.trial() as innermost:
                    innermost.undo()
                    innermost.undo()
                    innermost.undo()
                self.assertEqual(len(live), 5)
            self.assertEqual(live, before)
            with self.assertRaises(ZeroDivisionError):
                with live.trial():
                    live.strike(0)
                    live.turn(1 // 0)
            self.assertEqual(live, before)
            outer.turn(0)
        self.as_begun(live)

    def test_it_is_as_it_was_when_the_block_began(self):
        live = begun()
        manager = live.trial()
        live.turn(0)
        with manager:
            live.strike(1)
        self.assertEqual(len(live), 4)
        live.undo()
        self.as_begun(live)

    def test_the_same_trial_again(self):
        live = begun()
        manager = live.trial()
        with manager:
            live.strike(1)
        self.as_begun(live)
        live.strike(0)
        with manager as same:
            self.assertIs(same, live)
            live.strike(0)
            with manager:
                live.put(unknown(FIELD, 0), "zero")
            self.assertEqual(len(live), 5)
        self.assertEqual(len(live), 4)
        live.undo()
        self.as_begun(live)

    def test_copies_within(self):
        live = begun()
        with live.trial() as same:
            same.strike(0)
            other = same.copy()
        self.as_begun(live)
        self.assertEqual(len(other), 4)
        other.undo()
        self.as_begun(other)
        with live.copy().trial() as another:
            another.strike(0)
            self.as_begun(live)
            live.strike(1)
        self.assertEqual(len(live), 4)

    def test_with_four_hundred_deeds(self):
        live = begun()
        while len(live) < 400:
            live.turn(0)
        with live.trial():
            live.undo()
            live.strike(1)
            with self.assertRaises(TooGreat):
                live.strike(0)
        self.assertEqual(len(live), 400)
        with self.assertRaises(TooGreat):
            with live.trial():
                live.turn(0)
        self.assertEqual(len(live), 400)

    def test_a_new_one(self):
        live = Live(FIELD)
        with live.trial():
            live.put(unknown(FIELD, 0), "zero")
        self.assertEqual(live, Live(FIELD))
        with self.assertRaises(NothingLeft):
            live.undo()


class Manager:
    """Gives a thing, and keeps what the block ended with."""

    def __init__(self, thing, passes=True):
        self.thing = thing
        self.passes = passes
        self.ended = None

    def __enter__(self):
        return self.thing

    def __exit__(self, *told):
        self.ended = told
        return not self.passes


class Under(unittest.TestCase):
    def test_it_tells_what_the_deed_tells(self):
        live = begun()
        self.assertEqual(under(live.trial(), lambda one: (one, len(one))), (live, 3))
        self.assertIs(under(live.trial(), lambda one: one), live)
        self.assertIsNone(under(live.trial(), lambda one: one.strike(0)))
        self.assertEqual(live, begun())

    def test_the_deed_is_done_within(self):
        live = begun()

        def deed(one):
            one.strike(1)
            one.turn(0)
            return one.conditions()

        self.assertEqual(under(live.trial(), deed), ((unknown(FIELD, 0), "other"),))
        self.assertEqual(live, begun())
        self.assertEqual(under(live.trial(), lambda one: under(one.trial(), deed)), ((unknown(FIELD, 0), "other"),))
        self.assertEqual(live, begun())

    def test_exceptions_pass(self):
        live = begun()
        with self.assertRaises(BadNumber) as caught:
            under(live.trial(), lambda one: one.turn(7))
        self.assertEqual(caught.exception.value, 7)
        with self.assertRaises(KeyError):
            under(live.trial(), lambda one: (one.strike(0), {}[1]))
        self.assertEqual(live, begun())

    def test_any_manager(self):
        manager = Manager("thing")
        self.assertEqual(under(manager, lambda one: one + "!"), "thing!")
        self.assertEqual(manager.ended, (None, None, None))
        with self.assertRaises(TypeError):
            under(manager, lambda one: one + 1)
        self.assertIs(manager.ended[0], TypeError)
        self.assertIsNone(under(Manager("thing", passes=False), lambda one: one + 1))

    def test_by_name(self):
        live = begun()
        self.assertEqual(under(manager=live.trial(), deed=len), 3)
        self.assertEqual(under(deed=len, manager=live.trial()), 3)
        self.assertEqual(under(live.trial(), deed=len), 3)
