"""Calls of every function: names, orders of refusals, no other effects ([0], [1], [2], [3])."""

import copy
import inspect
import itertools
import unittest

from primezeros import boxes, desk, errors, fields, hidden, live, planes, polys, promises, sums, systems, texts
from tests.helpers import FIELDS, sample_boxes, sample_polys, sample_systems, strange_values, unknown

# Each function with its parameters and what each of them is.
CALLS = (
    (fields.need_field, ("thing", "field")),
    (fields.points, ("field", "field")),
    (polys.need_poly, ("field", "field"), ("thing", "poly")),
    (polys.value_at, ("field", "field"), ("poly", "poly"), ("point", "point")),
    (polys.values, ("field", "field"), ("poly", "poly")),
    (polys.degree, ("field", "field"), ("poly", "poly")),
    (polys.reduced, ("field", "field"), ("poly", "poly")),
    (polys.added, ("field", "field"), ("poly", "poly"), ("other", "poly")),
    (polys.multiplied, ("field", "field"), ("poly", "poly"), ("other", "poly")),
    (polys.poly_of, ("field", "field"), ("rests", "rests")),
    (polys.are_alike, ("field", "field"), ("poly", "poly"), ("other", "poly")),
    (polys.parting_point, ("field", "field"), ("poly", "poly"), ("other", "poly")),
    (systems.need_system, ("field", "field"), ("thing", "system")),
    (systems.zeros, ("field", "field"), ("system", "system")),
    (systems.count, ("field", "field"), ("system", "system")),
    (systems.indicator, ("field", "field"), ("system", "system")),
    (systems.have_alike_zeros, ("field", "field"), ("system", "system"), ("other", "system")),
    (systems.one_poly, ("field", "field"), ("system", "system")),
    (promises.promise, ("field", "field"), ("system", "system")),
    (promises.top, ("field", "field"), ("system", "system")),
    (promises.least_zeros, ("field", "field"), ("system", "system")),
    (promises.norm, ("field", "field"), ("many", "many")),
    (promises.lonely, ("field", "field"), ("degrees", "degrees")),
    (promises.is_lonely, ("field", "field"), ("system", "system")),
    (boxes.rest_in, ("field", "field"), ("poly", "poly"), ("box", "box")),
    (boxes.alive_point, ("field", "field"), ("poly", "poly"), ("box", "box")),
    (boxes.is_promised, ("field", "field"), ("poly", "poly"), ("box", "box")),
    (hidden.depth, ("field", "field"), ("lot", "lot"), ("point", "point")),
    (hidden.depth_paper, ("field", "field"), ("lot", "lot"), ("point", "point")),
    (hidden.check_depth, ("field", "field"), ("lot", "lot"), ("point", "point"), ("paper", "paper")),
    (planes.uncovered, ("field", "field"), ("planes", "planes")),
    (planes.cover, ("field", "field")),
    (planes.is_cover, ("field", "field"), ("value", "any")),
    (sums.nought_lot, ("prime", "prime"), ("vectors", "vectors")),
    (sums.many_nought_lots, ("prime", "prime"), ("vectors", "vectors")),
    (sums.even_lot, ("prime", "prime"), ("rests", "few rests")),
    (sums.sure_many, ("prime", "prime"), ("long", "long")),
    (texts.poly_text, ("field", "field"), ("poly", "poly")),
    (texts.point_text, ("field", "field"), ("point", "point")),
    (texts.read_poly, ("field", "field"), ("text", "text")),
)

REFUSALS = {
    "field": (errors.BadField, "place"), "poly": (errors.BadPoly, "place"),
    "point": (errors.BadPoint, "value"), "system": (errors.BadSystem, "place"),
    "rests": (errors.BadNumber, "value"), "many": (errors.BadNumber, "value"),
    "degrees": (errors.BadNumber, "value"), "box": (errors.BadBox, "value"), "lot": (errors.BadLot, "value"),
    "paper": (errors.BadPaper, "word"), "planes": (errors.BadPlanes, "place"),
    "prime": (errors.BadNumber, "value"), "vectors": (errors.BadVectors, "place"),
    "few rests": (errors.BadVectors, "place"), "long": (errors.BadNumber, "value"), "text": (errors.BadText, "part"),
}

# Of the values of every kind, those that a parameter of a kind takes, or refuses by another exception.
TAKEN = {
    "many": (1, 2), "prime": (2, 3, 7), "long": (1, 2, 3), "text": ("21",), "few rests": ((2, 1, 1, 1, 1, 1),),
}


def calls_in(field):
    """The CALLS that can be made in a FIELD of that many POINTS."""
    if field[0] ** field[1] <= 130:
        return CALLS
    return tuple(call for call in CALLS if call[0].__module__ != "primezeros.hidden")


def refusable(parameters):
    """The places and kinds of the parameters for which some values are refused."""
    return [(at, name, kind) for at, (name, kind) in enumerate(parameters) if kind != "any"]


def good_argument(field, kind, number):
    """An argument of a kind; another one for another number."""
    if kind == "field":
        return field
    if kind == "poly":
        return sample_polys(field)[4 + number]
    if kind == "system":
        return sample_systems(field)[number]
    if kind == "point":
        return (field[0] - 1,) * field[1]
    if kind == "lot":
        # Of all POINTS, that of the kind "point" is the last one.
        return fields.points(field)[:-1]
    if kind == "paper":
        return hidden.depth_paper(field, good_argument(field, "lot", 1), good_argument(field, "point", 2))
    if kind == "box":
        return sample_boxes(field)[-1]
    if kind == "many":
        return field[1]
    if kind == "degrees":
        return (1, field[1], 8)
    if kind in ("planes", "any"):
        return planes.cover(field)[number:]
    if kind == "prime":
        return field[0]
    if kind == "vectors":
        return ((1, field[0] - 1), (0, 1), (1, 1))[:number + 2]
    if kind == "few rests":
        return (1, 0, 1) * 4
    if kind == "long":
        return 2
    if kind == "text":
        return "1*x0^2 + 1"
    return tuple((at + number) % field[0] for at in range(field[0] ** field[1]))


def good_arguments(field, parameters):
    return [good_argument(field, kind, number) for number, (_, kind) in enumerate(parameters)]


def wrong_arguments(kind, parameter):
    """Values that are refused, each with the field of its exception."""
    # What is wrong with "other" differs from what is wrong with the argument ahead of it.
    if kind == "field":
        return [(None, ()), ((4, 9), (0,)), ((3, 9), (1,)), ((7, 4), ()), ([3, 2], ())]
    if kind == "poly" and parameter != "other":
        return [((None,), (0,)), ((((0, 0), 1), ((0, 0), 1)), (1,))]
    if kind == "system" and parameter != "other":
        return [((None,), (0,)), ((unknown((3, 2), 0), ()), (1,))]
    if kind == "paper":
        return [
            (None, "form"), ((), "form"), ([(), ()], "form"), (((), ()), "poly"), ((None, None), "poly"),
            ((hidden.depth_paper((3, 2), fields.points((3, 2))[:-1], (2, 2))[0], ()), "weights"),
        ]
    if kind == "planes":
        good = planes.cover((3, 2))
        return [(good + (None,), (4,)), (None, ()), (list(good), ()), (good * 16, ()), ((((0, 0), 1),), (0,))]
    if kind == "vectors":
        return [(((0, 1), (0, 1, 1)), (1,)), (None, ()), (((0,),) * 14, ()), (((0, 9),), (0,)), ([(0,)], ())]
    if kind == "few rests":
        return [((0, 1, 9), (2,)), (None, ()), ((0,) * 14, ()), ((True,), (0,)), ([0], ())]
    if kind == "text":
        return [("1 + x", 1), ("", 0), (None, None), (b"1", None), ("1 + 1", 1), (["0"], None)]
    if kind in ("poly", "system"):
        return [(None, ()), ([], ()), ("x", ()), (True, ())]
    return [(thing, thing) for thing in (None, "x", [0, 0], (0, True), (3,) * 9, True)]


class Calls(unittest.TestCase):
    def test_every_function_of_the_interface_is_listed(self):
        listed = {call[0] for call in CALLS}
        self.assertEqual(len(listed), len(CALLS))
        self.assertEqual(len(CALLS), 40)

    def test_parameter_names(self):
        for function, *parameters in CALLS:
            names = list(inspect.signature(function).parameters)
            self.assertEqual(names, [name for name, _ in parameters])

    def test_by_position_and_by_name(self):
        for field in ((2, 1), (3, 2), (5, 4)):
            for function, *parameters in calls_in(field):
                given = good_arguments(field, parameters)
                wanted = function(*given)
                named = list(zip([name for name, _ in parameters], given))
                for order in itertools.permutations(named):
                    self.assertEqual(function(**dict(order)), wanted)
                for many in range(1, len(given)):
                    self.assertEqual(function(*given[:many], **dict(named[many:])), wanted)

    def refused(self, function, parameters, given, at, thing, word):
        """Checks that a call is refused by what is wrong with the argument at a place."""
        error, field_name = REFUSALS[parameters[at][1]]
        for call in (lambda: function(*given),
                     lambda: function(**dict(reversed(list(zip([name for name, _ in parameters], given)))))):
            with self.assertRaises(errors.RestError) as caught:
                call()
            self.assertIs(type(caught.exception), error)
            found = getattr(caught.exception, field_name)
            if field_name == "value":
                self.assertIs(found, thing)
            else:
                self.assertEqual(found, word)

    def test_each_wrong_argument_by_its_own_exception(self):
        field = (3, 2)
        for function, *parameters in CALLS:
            for at, name, kind in refusable(parameters):
                for thing, word in wrong_arguments(kind, name):
                    given = good_arguments(field, parameters)
                    given[at] = thing
                    self.refused(function, parameters, given, at, thing, word)

    def test_wrong_arguments_of_every_kind(self):
        field = (3, 2)
        for function, *parameters in CALLS:
            for at, _, kind in refusable(parameters):
                for thing in strange_values():
                    if type(thing) in (int, str, tuple) and thing in TAKEN.get(kind, ()):
                        continue
                    given = good_arguments(field, parameters)
                    given[at] = thing
                    with self.assertRaises(REFUSALS[kind][0]):
                        function(*given)

    def test_of_several_wrong_arguments_the_first_one(self):
        field = (3, 2)
        for function, *parameters in CALLS:
            for at, name, kind in refusable(parameters):
                for behind in itertools.product((0, 1), repeat=len(parameters) - at - 1):
                    thing, word = wrong_arguments(kind, name)[0]
                    given = good_arguments(field, parameters)
                    given[at] = thing
                    for number, choice in enumerate(behind):
                        later = parameters[at + 1 + number]
                        if choice and later[1] == "any":
                            given[at + 1 + number] = None
                        elif choice:
                            given[at + 1 + number] = wrong_arguments(later[1], later[0])[0][0]
                    self.refused(function, parameters, given, at, thing, word)

    def test_true_and_false_are_no_rests(self):
        for function, *parameters in CALLS:
            for at, _, kind in refusable(parameters):
                given = good_arguments((2, 1), parameters)
                given[at] = {
                    "field": (2, True), "poly": (((True,), 1),), "point": (True,),
                    "system": ((((1,), True),),), "rests": (False, True),
                    "many": True, "degrees": (True,), "box": ((False, True),), "lot": ((False,),),
                    "planes": (((1,), True),), "paper": ((((1,), 1),), (((0,), 1), ((1,), True))),
                    "prime": True, "vectors": ((True,),), "few rests": (False, True), "long": True, "text": True,
                }[kind]
                with self.assertRaises(REFUSALS[kind][0]):
                    function(*given)


class NoOtherEffects(unittest.TestCase):
    def test_what_is_passed_stays_as_it_was(self):
        for field in ((2, 1), (3, 2), (7, 3)):
            for function, *parameters in calls_in(field):
                given = good_arguments(field, parameters)
                before = copy.deepcopy(given)
                function(*given)
                self.assertEqual(given, before)

    def test_what_is_refused_stays_as_it_was(self):
        wrong = ([3, 2], {3: [2]}, {"a": {1, 2}}, ([3, 2], [((0, 0), 1)]), {1, 2, 3})
        for function, *parameters in CALLS:
            for at, _, _ in refusable(parameters):
                for thing in wrong:
                    given = good_arguments((3, 2), parameters)
                    given[at] = copy.deepcopy(thing)
                    with self.assertRaises(errors.RestError):
                        function(*given)
                    self.assertEqual(given[at], thing)

    def test_equal_calls_and_earlier_results(self):
        for field in FIELDS:
            calls = calls_in(field)
            first = [function(*good_arguments(field, parameters)) for function, *parameters in calls]
            kept = copy.deepcopy(first)
            for function, *parameters in reversed(calls):
                with self.assertRaises(errors.RestError):
                    function(*([None] * len(parameters)))
                function(*good_arguments((2, 2), parameters))
            again = [function(*good_arguments(field, parameters)) for function, *parameters in calls]
            self.assertEqual(first, kept)
            self.assertEqual(again, kept)

    def test_any_value_stays_as_it_was(self):
        for thing in ([planes.cover((3, 2))], {3: [2]}, ([3, 2], {1}), (((0, 1), 1), [((1, 0), 1)])):
            given = copy.deepcopy(thing)
            self.assertIs(planes.is_cover((3, 2), given), False)
            self.assertEqual(given, thing)

    def test_results_are_of_plain_immutable_kinds(self):
        def kinds(value):
            if isinstance(value, tuple):
                return {tuple}.union(*[kinds(item) for item in value])
            return {type(value)}

        for field in ((2, 1), (3, 2), (5, 4)):
            for function, *parameters in calls_in(field):
                found = kinds(function(*good_arguments(field, parameters)))
                self.assertLessEqual(found, {tuple, int, bool, str, type(None)})
                if str in found:
                    self.assertIn(function, (texts.poly_text, texts.point_text))
                if bool in found:
                    self.assertIn(function, (
                        polys.are_alike, systems.have_alike_zeros, promises.is_lonely, boxes.is_promised,
                        planes.is_cover,
                    ))


def begun():
    """A Live with two conditions and three deeds."""
    one = live.Live((3, 2))
    one.put(unknown((3, 2), 0), "zero")
    one.put(unknown((3, 2), 1, 2), "other")
    one.turn(1)
    return one


class Methods(unittest.TestCase):
    # Each method with its arguments by name.
    TAKES = (
        ("put", {"poly": unknown((3, 2), 1), "sign": "other"}), ("strike", {"number": 0}), ("turn", {"number": 1}),
        ("conditions", {}), ("holding", {}), ("holds", {"point": (0, 1)}), ("promise", {}), ("undo", {}), ("copy", {}),
        ("trial", {}),
    )

    def test_parameter_names(self):
        for function, names in [(getattr(live.Live, name), ["self", *takes]) for name, takes in self.TAKES] + [
            (live.Live.__init__, ["self", "field"]), (live.under, ["manager", "deed"]),
            (desk.Desk.__init__, ["self", "field"]), (desk.Desk.say, ["self", "line"]),
        ]:
            self.assertEqual(list(inspect.signature(function).parameters), names)

    def test_by_position_and_by_name(self):
        for name, takes in self.TAKES:
            one = begun()
            wanted = getattr(one, name)(*takes.values())
            for order in itertools.permutations(takes.items()):
                for many in range(len(order) + 1):
                    other = begun()
                    if many and list(order) != list(takes.items()):
                        continue
                    told = getattr(other, name)(*list(takes.values())[:many], **dict(order[many:]))
                    if name != "trial":
                        self.assertEqual(told, wanted)
                    self.assertEqual(other, one)
        self.assertEqual(live.Live(field=(3, 2)), live.Live((3, 2)))
        self.assertEqual(desk.Desk(field=(3, 2)).live, live.Live((3, 2)))
        self.assertEqual(desk.Desk((3, 2)).say(line="many"), "9")

    def test_for_which_no_result_is_told(self):
        for name in ("put", "strike", "turn", "undo"):
            self.assertIsNone(getattr(begun(), name)(*dict(self.TAKES)[name].values()))

    def test_equal_calls_and_earlier_results(self):
        one = begun()
        asked = [(name, takes) for name, takes in self.TAKES if name in ("conditions", "holding", "holds", "promise")]
        first = [getattr(one, name)(**takes) for name, takes in asked]
        kept = copy.deepcopy(first)
        self.assertEqual([getattr(one, name)(**takes) for name, takes in asked], kept)
        one.strike(0)
        one.turn(0)
        self.assertEqual(first, kept)
        one.undo()
        one.undo()
        self.assertEqual([getattr(one, name)(**takes) for name, takes in asked], kept)

    def test_results_are_of_plain_immutable_kinds(self):
        one = begun()
        self.assertIs(type(one.conditions()), tuple)
        self.assertTrue(all(type(row) is tuple and len(row) == 2 for row in one.conditions()))
        self.assertIs(type(one.holding()), tuple)
        self.assertIs(type(one.holds((0, 0))), bool)
        self.assertIs(type(one == one), bool)
        self.assertIs(type(len(one)), int)
        self.assertIs(type(one.promise()), int)
        self.assertIs(type(one.field), tuple)
        for line in ("many", "first", "promise", "field", "conditions", "holds 0 0", "x", None):
            self.assertIs(type(desk.Desk((3, 2)).say(line)), str)

    def test_what_is_passed_stays_as_it_was(self):
        for thing in ([unknown((3, 2), 0)], [1], {"zero": [1]}, {1: {2}}, {1, 2}):
            for call in (
                lambda given: begun().put(given, "zero"), lambda given: begun().put(unknown((3, 2), 0), given),
                lambda given: begun().strike(given), lambda given: begun().turn(given),
                lambda given: begun().holds(given), lambda given: live.Live(given), lambda given: desk.Desk(given),
            ):
                given = copy.deepcopy(thing)
                with self.assertRaises(errors.RestError):
                    call(given)
                self.assertEqual(given, thing)
            given = copy.deepcopy(thing)
            self.assertEqual(desk.Desk((3, 2)).say(given), "no")
            self.assertEqual(given, thing)
