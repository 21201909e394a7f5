"""What holds of all functions: which error comes first, names of arguments, nothing changed, nothing kept."""

import gc
import inspect
import unittest
import weakref

from eachinturn import halls, rows
from eachinturn.errors import BadPlace, BadRows, BadState
from tests.calls import ANY, CALLS, error_for, kind_of, wrong_ones
from tests.helpers import H, H_TEXT, THREE_STATES, WEB, Hostile, LikeAll, as_lists, frozen, never_right


def error_of(function, arguments):
    """The class of the error that a call raises; None if it raises none."""
    try:
        function(**arguments)
    except Exception as error:
        return type(error)
    return None


def told_names(function, arguments):
    """The arguments that are wrong if they are none of their kind, in their sequence."""
    return [name for name in arguments if name not in ANY]


def copied(thing):
    """The same, with all lists new."""
    if isinstance(thing, list):
        return [copied(part) for part in thing]
    return thing


def fresh(arguments):
    return {name: copied(worth) for name, worth in arguments.items()}


class WrongArgumentsTest(unittest.TestCase):
    def test_each_argument_that_is_none_of_its_kind(self):
        for function, arguments in CALLS:
            for name in told_names(function, arguments):
                for wrong in wrong_ones(function, name, arguments[name]):
                    changed = {**fresh(arguments), name: wrong}
                    self.assertIs(error_of(function, changed), error_for(function, name), (function.__name__, name))

    def test_the_first_that_is_not_right_tells_the_error(self):
        for function, arguments in CALLS:
            names = told_names(function, arguments)
            for at, name in enumerate(names[:-1]):
                later = [wrong_ones(function, other, arguments[other]) for other in names[at + 1:]]
                for number, wrong in enumerate(wrong_ones(function, name, arguments[name])):
                    changed = {**fresh(arguments), name: wrong}
                    for other, wrongs in zip(names[at + 1:], later):
                        changed[other] = wrongs[number % len(wrongs)]
                    self.assertIs(error_of(function, changed), error_for(function, name), (function.__name__, name))

    def test_the_first_of_each_two_that_stand_side_by_side(self):
        for function, arguments in CALLS:
            names = told_names(function, arguments)
            for name, other in zip(names, names[1:]):
                for wrong in wrong_ones(function, name, arguments[name])[::5]:
                    for later in wrong_ones(function, other, arguments[other])[::5]:
                        changed = {**fresh(arguments), name: wrong, other: later}
                        self.assertIs(error_of(function, changed), error_for(function, name), function.__name__)

    def test_what_judges_any_object_comes_behind_the_others(self):
        for function, arguments in CALLS:
            if "thing" in arguments:
                for name in told_names(function, arguments):
                    for wrong in wrong_ones(function, name, arguments[name])[::3]:
                        for thing in (None, Hostile(), arguments["thing"]):
                            changed = {**arguments, name: wrong, "thing": thing}
                            self.assertIs(error_of(function, changed), error_for(function, name), function.__name__)

    def test_by_position_too(self):
        for function, arguments in CALLS:
            for name in told_names(function, arguments):
                for wrong in (None, Hostile(), LikeAll(), {}, True):
                    changed = {**fresh(arguments), name: wrong}
                    with self.assertRaises(error_for(function, name)):
                        function(*changed.values())

    def test_a_place_of_another_web(self):
        web = (("x", "y"), (("x", "y"),))
        with self.assertRaises(BadPlace):
            halls.neighbours(web, "a")
        with self.assertRaises(BadPlace):
            halls.table_of((2, web, (("keep",), ("keep",))), "b")

    def test_a_state_of_another_hall(self):
        with self.assertRaises(BadState):
            halls.number_of(THREE_STATES, (0, 0, 3, 0))
        with self.assertRaises(BadState):
            halls.number_of(THREE_STATES, (0, 0, 0))
        with self.assertRaises(BadState):
            halls.number_of(H, (0, 0, 2))
        self.assertEqual(halls.number_of(THREE_STATES, (0, 0, 2, 0)), 6)

    def test_truths_are_no_states(self):
        states = ((True, 0, 0), (0, True, 0), (0, 0, False), (True, True, True), (False, False, False))
        for function, arguments in CALLS:
            for name in told_names(function, arguments):
                if kind_of(function, name) in ("state", "resting", "on a ring", "reached"):
                    for state in states:
                        self.assertIs(error_of(function, {**arguments, name: state}), BadState, function.__name__)

    def test_any_object_of_the_functions_that_judge(self):
        for function, arguments in CALLS:
            if "thing" in arguments:
                self.assertIs(function(**arguments), True, function.__name__)
                for thing in never_right() + list(as_lists(arguments["thing"])):
                    self.assertIs(function(**{**arguments, "thing": thing}), False, function.__name__)


class RightArgumentsTest(unittest.TestCase):
    def test_the_arguments_are_those_of_the_function(self):
        for function, arguments in CALLS:
            self.assertEqual(list(inspect.signature(function).parameters), list(arguments), function.__name__)

    def test_by_position_and_by_name(self):
        for function, arguments in CALLS:
            values, pairs = list(arguments.values()), list(arguments.items())
            expected = function(*values)
            for result in (
                function(**arguments),
                function(**dict(pairs[::-1])),
                function(values[0], **dict(pairs[1:])),
                function(*values[:-1], **dict(pairs[-1:])),
            ):
                self.assertEqual(result, expected, function.__name__)
                self.assertEqual(frozen(result), frozen(expected), function.__name__)

    def test_the_functions_that_take_any_object(self):
        self.assertIs(halls.is_web(thing=WEB), True)
        self.assertIs(halls.is_hall(thing=H), True)
        self.assertEqual(rows.read_hall(text=H_TEXT), H)
        with self.assertRaises(BadRows):
            rows.read_hall(text=None)

    def test_equal_calls_return_equal_results(self):
        first = [frozen(function(**arguments)) for function, arguments in CALLS]
        for _ in range(2):
            for told, (function, arguments) in list(zip(first, CALLS))[::-1]:
                self.assertEqual(frozen(function(**arguments)), told, function.__name__)


class NothingChangedTest(unittest.TestCase):
    def test_right_arguments(self):
        for function, arguments in CALLS:
            ahead = frozen(arguments)
            function(**arguments)
            self.assertEqual(frozen(arguments), ahead, function.__name__)

    def things(self):
        yield from never_right()
        yield from as_lists(WEB)
        yield from as_lists(H)
        yield [2, [["b", "a"], [["b", "a"]]], [["odd"], ["keep"]]]
        yield [["b", "a"], [["b", "a"]]]
        yield (["c", "b", "a"], (("c", "a"),))
        yield {"b": ["z", "a"], "a": {1: [2]}}
        yield [("swap", 1), ["turn"], ("turn",)]
        yield [["copy", "b"], [1, 0]]

    def test_objects_that_are_none_of_their_kind(self):
        for function, arguments in CALLS:
            for name in arguments:
                for thing in self.things():
                    ahead = frozen(thing)
                    error_of(function, {**fresh(arguments), name: thing})
                    self.assertEqual(frozen(thing), ahead, (function.__name__, name))


def lists_in(thing):
    """All lists in what was returned."""
    if isinstance(thing, list):
        yield thing
    if isinstance(thing, (list, tuple)):
        for part in thing:
            yield from lists_in(part)


class NothingKeptTest(unittest.TestCase):
    def test_no_reference_is_kept(self):
        for function, arguments in CALLS:
            for name in arguments:
                held = Hostile()
                seen = weakref.ref(held)
                for thing in (held, (held,), [held], (held, held), (held, ()), (2, held, ()), ((held,), (held,))):
                    error_of(function, {**fresh(arguments), name: thing})
                del held, thing
                gc.collect(0)
                self.assertIsNone(seen(), (function.__name__, name))

    def test_lists_that_were_handed_in_can_be_changed(self):
        for function, arguments in CALLS:
            handed = fresh(arguments)
            found = function(**handed)
            expected = frozen(found)
            for worth in handed.values():
                for told in list(lists_in(worth)):
                    told.clear()
            self.assertEqual(frozen(found), expected)
            self.assertEqual(frozen(function(**arguments)), expected)

    def test_returned_lists_are_new(self):
        some = 0
        for function, arguments in CALLS:
            one, other = function(**arguments), function(**arguments)
            expected = frozen(other)
            lists = list(lists_in(one)) + list(lists_in(other)) + [
                told for worth in arguments.values() for told in lists_in(worth)
            ]
            self.assertEqual(len({id(told) for told in lists}), len(lists), function.__name__)
            for told in list(lists_in(one)):
                some += 1
                told.append(None)
                told.reverse()
                del told[1:]
            self.assertEqual(frozen(other), expected, function.__name__)
            self.assertEqual(frozen(function(**arguments)), expected, function.__name__)
        self.assertGreater(some, 20)


if __name__ == "__main__":
    unittest.main()
