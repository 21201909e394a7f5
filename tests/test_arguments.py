"""What holds of all functions: which error comes first, names of arguments, nothing changed, nothing kept."""

import gc
import unittest
import weakref

from eachinturn import halls, rows
from eachinturn.errors import BadHall, BadPlace, BadRows, BadState, BadWeb
from tests.helpers import (
    EIGHT, EVERY_SORT, H, H_TEXT, PAIRS, THREE_STATES, WEB, Hostile, LikeAll, as_lists, frozen, never_right,
    odd_objects,
)

RIGHT = {"web": WEB, "hall": H, "place": "b", "state": (1, 0, 0)}
ERRORS = {"web": BadWeb, "hall": BadHall, "place": BadPlace, "state": BadState}

# Each function that raises for an argument, the names of its arguments, and what it returns for RIGHT.
FUNCTIONS = [
    (halls.neighbours, ("web", "place"), ("a", "c")),
    (halls.pieces, ("web",), [("a", "b", "c")]),
    (halls.is_forest, ("web",), True),
    (halls.table_of, ("hall", "place"), (0, 1, 1, 0, 1, 0, 0, 1)),
    (halls.with_tables, ("hall",), (
        2, WEB, (("table", (0, 0, 1, 1)), ("table", (0, 1, 1, 0, 1, 0, 0, 1)), ("table", (0, 0, 1, 1))),
    )),
    (halls.states_of, ("hall",), [(a, b, c) for a in (0, 1) for b in (0, 1) for c in (0, 1)]),
    (halls.number_of, ("hall", "state"), 4),
    (rows.write_hall, ("hall",), H_TEXT),
]

NEAR_WEBS = [
    H, (EIGHT + ("i",), ()), (EIGHT, PAIRS[:15]), (("a", "b", "b"), (("a", "b"),)), (("b",), (("b", "b"),)),
    (("b", "a"), (("a", "b"), ("b", "a"))), (("b", "A"), ()), (("b", "abcdefghi"), ()), (("b",), ()) + ((),),
    (("b",), (("b", "c"),)), (("b", True), ()), (("b", 1), ()), ("b", ()),
]
NEAR_HALLS = [
    WEB, (True, WEB, H[2]), (1, WEB, H[2]), (4, WEB, H[2]), (2, WEB, H[2][:2]), (2, WEB, H[2] + (("keep",),)),
    (2, WEB, (("copy", "c"), ("odd",), ("copy", "b"))), (2, WEB, (("most", 10), ("odd",), ("keep",))),
    (2, WEB, (("most", True), ("odd",), ("keep",))), (3, (EIGHT[:6], ()), (("keep",),) * 6), H + (None,), H[:2],
    (2, WEB, (("table", (0, 1, 0, 2)), ("odd",), ("keep",))),
    (2, WEB, (("table", (0, 1, 0, True)), ("odd",), ("keep",))),
    (2, (("a", "b", "c"), (("a", "b"), ("b", "c"), ("c", "b"))), H[2]),
]
NEAR_PLACES = ["d", "A", "B", "ab", "bc", "b ", " b", "b\n", 0, 1, 2, ("b",), ["b"], b"b", {"b"}, {"b": "b"}]
NEAR_STATES = [
    (1, 0), (1, 0, 0, 0), (2, 0, 0), (0, 0, 2), (0, -1, 0), (True, 0, 0), (1, False, 0), (1, 0, False), [1, 0, 0],
    (1, 0, None), (1, 0, "0"), ((1,), (0,), (0,)), 4, "100", (), {0: 1, 1: 0, 2: 0}, ((1, 0, 0),), (1, 0, 10 ** 59),
]

WRONG = {
    "web": lambda: odd_objects() + NEAR_WEBS + list(as_lists(WEB)),
    "hall": lambda: odd_objects() + NEAR_HALLS + list(as_lists(H)),
    "place": lambda: [thing for thing in odd_objects() if thing is not None] + [None] + NEAR_PLACES,
    "state": lambda: odd_objects() + NEAR_STATES,
}


def error_of(function, arguments):
    """The class of the error that a call raises; None if it raises none."""
    try:
        function(**arguments)
    except Exception as error:
        return type(error)
    return None


class WrongArgumentsTest(unittest.TestCase):
    def test_each_argument_that_is_none_of_its_kind(self):
        for function, names, _ in FUNCTIONS:
            for name in names:
                for wrong in WRONG[name]():
                    arguments = {other: RIGHT[other] for other in names}
                    arguments[name] = wrong
                    self.assertIs(error_of(function, arguments), ERRORS[name], (function.__name__, name))

    def test_the_first_that_is_not_right_tells_the_error(self):
        for function, names, _ in FUNCTIONS:
            for at, name in enumerate(names[:-1]):
                for wrong in WRONG[name]():
                    for later in WRONG[names[at + 1]]():
                        arguments = {other: RIGHT[other] for other in names}
                        arguments[name] = wrong
                        arguments[names[at + 1]] = later
                        self.assertIs(error_of(function, arguments), ERRORS[name], (function.__name__, name))

    def test_by_position_too(self):
        for function, names, _ in FUNCTIONS:
            for at, name in enumerate(names):
                for wrong in (None, Hostile(), LikeAll(), [], {}, True):
                    arguments = [RIGHT[other] for other in names]
                    arguments[at] = wrong
                    with self.assertRaises(ERRORS[name]):
                        function(*arguments)

    def test_a_place_of_another_web(self):
        web = (("x", "y"), (("x", "y"),))
        with self.assertRaises(BadPlace):
            halls.neighbours(web, "a")
        with self.assertRaises(BadPlace):
            halls.table_of((2, web, (("keep",), ("keep",))), "b")

    def test_a_state_of_another_hall(self):
        with self.assertRaises(BadState):
            halls.number_of(THREE_STATES, (0, 0, 3, 0))
        with self.assertRaises(BadState):
            halls.number_of(THREE_STATES, (0, 0, 0))
        with self.assertRaises(BadState):
            halls.number_of(H, (0, 0, 2))
        self.assertEqual(halls.number_of(THREE_STATES, (0, 0, 2, 0)), 6)

    def test_truths_are_no_states(self):
        for state in ((True, 0, 0), (0, True, 0), (0, 0, False), (True, True, True), (False, False, False)):
            with self.assertRaises(BadState):
                halls.number_of(H, state)

    def test_any_object_of_the_functions_that_judge(self):
        for thing in odd_objects():
            self.assertIs(halls.is_web(thing), False)
            self.assertIs(halls.is_hall(thing), False)


class RightArgumentsTest(unittest.TestCase):
    def test_by_position_and_by_name(self):
        for function, names, expected in FUNCTIONS:
            values = [RIGHT[name] for name in names]
            for result in (
                function(*values),
                function(**dict(zip(names, values))),
                function(**dict(list(zip(names, values))[::-1])),
                function(values[0], **dict(list(zip(names, values))[1:])),
            ):
                self.assertEqual(result, expected, function.__name__)
                self.assertIs(type(result), type(expected), function.__name__)

    def test_the_functions_that_take_any_object(self):
        self.assertIs(halls.is_web(thing=WEB), True)
        self.assertIs(halls.is_hall(thing=H), True)
        self.assertEqual(rows.read_hall(text=H_TEXT), H)
        self.assertEqual(rows.read_hall(H_TEXT), H)
        with self.assertRaises(BadRows):
            rows.read_hall(text=None)

    def test_equal_calls_return_equal_results(self):
        for function, names, expected in FUNCTIONS:
            for _ in range(3):
                self.assertEqual(function(*[RIGHT[name] for name in names]), expected)


class NothingChangedTest(unittest.TestCase):
    def test_right_arguments(self):
        for function, names, _ in FUNCTIONS:
            arguments = {name: RIGHT[name] for name in names}
            ahead = frozen(arguments)
            function(**arguments)
            self.assertEqual(frozen(arguments), ahead)
        for hall in (H, EVERY_SORT, THREE_STATES):
            ahead = frozen(hall)
            halls.is_hall(hall)
            halls.is_web(hall[1])
            rows.read_hall(rows.write_hall(hall))
            halls.with_tables(hall)
            self.assertEqual(frozen(hall), ahead)

    def things(self):
        yield from never_right()
        yield from as_lists(WEB)
        yield from as_lists(H)
        yield [2, [["b", "a"], [["b", "a"]]], [["odd"], ["keep"]]]
        yield [["b", "a"], [["b", "a"]]]
        yield (["c", "b", "a"], (("c", "a"),))
        yield {"b": ["z", "a"], "a": {1: [2]}}

    def test_objects_that_are_none_of_their_kind(self):
        for function in [function for function, _, _ in FUNCTIONS] + [halls.is_web, halls.is_hall, rows.read_hall]:
            many = function.__code__.co_argcount
            for thing in self.things():
                ahead = frozen(thing)
                try:
                    function(*[thing] * many)
                except ValueError:
                    pass
                self.assertEqual(frozen(thing), ahead, function.__name__)

    def test_later_arguments(self):
        for thing in self.things():
            ahead = frozen(thing)
            with self.assertRaises(BadPlace):
                halls.neighbours(WEB, thing)
            with self.assertRaises(BadPlace):
                halls.table_of(H, thing)
            with self.assertRaises(BadState):
                halls.number_of(H, thing)
            self.assertEqual(frozen(thing), ahead)


class NothingKeptTest(unittest.TestCase):
    def test_no_reference_is_kept(self):
        for function in (halls.is_web, halls.is_hall):
            thing = Hostile()
            seen = weakref.ref(thing)
            for place in (thing, (thing, ()), ((thing,), ()), (2, thing, ()), (2, WEB, (thing, thing, thing))):
                function(place)
            del thing, place
            gc.collect()
            self.assertIsNone(seen())

    def test_lists_stand_in_one_place(self):
        for function in (halls.pieces, halls.states_of):
            argument = WEB if function is halls.pieces else H
            one, other = function(argument), function(argument)
            self.assertIsNot(one, other)
            expected = list(other)
            one.clear()
            self.assertEqual(other, expected)
            self.assertEqual(function(argument), expected)


if __name__ == "__main__":
    unittest.main()
