"""Halls whose days can be taken back."""

import itertools
import unittest

from eachinturn.days import after, day, step
from eachinturn.errors import BadCount, BadHall, BadOrder, BadRules, BadState
from eachinturn.halls import is_hall, neighbours, states_of
from eachinturn.rings import deepest
from eachinturn.undoing import (
    can_be_undone, day_before, far_before, turned_about, undo_paper, undone_hall,
)
from tests import own
from tests.helpers import EVERY_SORT, H, THREE_STATES, WEB
from tests.test_days import COUNTER, DIGITS
from tests.test_tables import hall_around_mid, rules_for, web_around_mid

ABC = ("a", "b", "c")


def own_can(hall, place):
    """Whether unlike own states of a place have unlike next ones, whatever the neighbours' states."""
    number = hall[1][0].index(place)
    for state in own.states_of(hall):
        made = [
            own.step_of(hall, state[:number] + (own_state,) + state[number + 1:], place)
            for own_state in range(hall[0])
        ]
        if len(set(made)) < hall[0]:
            return False
    return True


def own_paper(hall):
    for place in hall[1][0]:
        if not own_can(hall, place):
            number = hall[1][0].index(place)
            return min(
                (place, one, two) for one, two in itertools.product(own.states_of(hall), repeat=2)
                if one < two and one[:number] + one[number + 1:] == two[:number] + two[number + 1:]
                and own.step_of(hall, one, place) == own.step_of(hall, two, place)
            )
    return None


class CanBeUndoneTest(unittest.TestCase):
    def check(self, k, d, found):
        around = neighbours(web_around_mid(d), "mid")
        for rule in rules_for(k, around):
            hall = hall_around_mid(k, d, rule)
            expected = own_can(hall, "mid")
            self.assertIs(can_be_undone(hall), expected, (k, d, rule))
            self.assertIs(undo_paper(hall) is None, expected)
            found.add((rule[0], expected))

    def test_each_sort_of_rule(self):
        for k, most in ((2, 4), (3, 3)):
            found = set()
            for d in range(most + 1):
                self.check(k, d, found)
            self.assertGreaterEqual(found, {
                ("keep", True), ("odd", True), ("least", False), ("greatest", False), ("most", False),
                ("copy", False), ("table", False), ("sum", False), ("least", True), ("greatest", True),
            })
            self.assertNotIn(("keep", False), found)
            self.assertNotIn(("odd", False), found)
            self.assertNotIn(("copy", True), found)
            self.assertNotIn(("most", True), found)

    def test_tables_and_sums(self):
        web = (("a", "b"), (("a", "b"),))
        for k, rule, expected in (
            (2, ("table", (0, 1, 1, 0)), True), (2, ("table", (1, 0, 1, 0)), True), (2, ("table", (0, 1, 1, 1)), False),
            (2, ("table", (0, 0, 1, 1)), False), (2, ("sum", ((0, 1), (1, 0))), True),
            (2, ("sum", ((0, 1), (1, 1))), False), (3, ("table", (0, 1, 2, 1, 2, 0, 2, 1, 0)), True),
            (3, ("table", (0, 1, 2, 1, 2, 0, 2, 1, 2)), False), (3, ("sum", ((0, 1, 2), (1, 2, 0), (2, 0, 1))), True),
            (3, ("sum", ((0, 1, 2), (1, 2, 0), (2, 0, 0))), False),
        ):
            self.assertIs(can_be_undone((k, web, (rule, ("keep",)))), expected, rule)
            self.assertIs(can_be_undone((k, web, (("keep",), rule))), expected, rule)

    def test_halls(self):
        for hall in (H, EVERY_SORT, THREE_STATES):
            self.assertIs(can_be_undone(hall), False)
        self.assertIs(can_be_undone(COUNTER), True)
        for hall in own.small_halls(rule=own.some_undoable_rule):
            self.assertIs(can_be_undone(hall), True)
            self.assertIsNone(undo_paper(hall))
        for hall in own.small_halls():
            self.assertIs(can_be_undone(hall), all(own_can(hall, place) for place in hall[1][0]))


class UndoPaperTest(unittest.TestCase):
    def test_the_first_place_and_the_first_states(self):
        some = 0
        for hall in own.small_halls(many=3):
            expected = own_paper(hall)
            found = undo_paper(hall)
            self.assertEqual(found, expected)
            if found is not None:
                some += 1
                place, one, two = found
                self.assertEqual(step(hall, one, place), step(hall, two, place))
                self.assertEqual([type(part) for part in (found, place, one, two)], [tuple, str, tuple, tuple])
        self.assertGreater(some, 30)

    def test_by_hand(self):
        self.assertEqual(undo_paper(H), ("a", (0, 0, 0), (1, 0, 0)))
        web = (("z", "m", "a"), (("z", "m"), ("m", "a")))
        self.assertEqual(undo_paper((2, web, (("odd",), ("least",), ("least",)))), ("m", (0, 0, 0), (0, 1, 0)))
        self.assertEqual(undo_paper((2, web, (("odd",), ("keep",), ("greatest",)))), ("a", (0, 1, 0), (0, 1, 1)))
        # of three own states the first and the last, or the last two
        lone = (("a",), ())
        self.assertEqual(undo_paper((3, lone, (("table", (1, 0, 1)),))), ("a", (0,), (2,)))
        self.assertEqual(undo_paper((3, lone, (("table", (1, 0, 0)),))), ("a", (1,), (2,)))
        self.assertEqual(undo_paper((3, lone, (("table", (1, 1, 1)),))), ("a", (0,), (1,)))
        self.assertIsNone(undo_paper((3, lone, (("table", (1, 2, 0)),))))


def undoable_halls():
    yield from own.small_halls(rule=own.some_undoable_rule)
    yield COUNTER
    yield (3, WEB, (("odd",), ("keep",), ("odd",)))
    yield (2, own.R, (("odd",), ("sum", ((0, 1, 1), (1, 0, 0))), ("keep",), ("odd",)))


class UndoneHallTest(unittest.TestCase):
    def test_each_step_is_taken_back(self):
        for hall in undoable_halls():
            found = undone_hall(hall)
            self.assertTrue(is_hall(found))
            self.assertEqual(found[:2], hall[:2])
            self.assertEqual({rule[0] for rule in found[2]}, {"table"})
            for state in states_of(hall)[::3]:
                for place in hall[1][0]:
                    self.assertEqual(step(found, own.step_of(hall, state, place), place), state)
                    self.assertEqual(own.step_of(hall, step(found, state, place), place), state)

    def test_days_are_taken_back_by_the_order_backwards(self):
        for hall in undoable_halls():
            back = undone_hall(hall)
            for order in own.some_orders(hall[1], 2):
                days = own.table_of_days(hall, order)
                for state in states_of(hall):
                    self.assertEqual(day(back, order[::-1], days[state]), state)
                self.assertEqual(deepest(hall, order), (0, states_of(hall)[0]))

    def test_undone_twice(self):
        for hall in undoable_halls():
            for state in states_of(hall)[::5]:
                for place in hall[1][0]:
                    self.assertEqual(
                        own.step_of(undone_hall(undone_hall(hall)), state, place), own.step_of(hall, state, place),
                    )

    def test_by_hand(self):
        lone = (("a",), ())
        self.assertEqual(undone_hall((3, lone, (("table", (1, 2, 0)),))), (3, lone, (("table", (2, 0, 1)),)))
        self.assertEqual(undone_hall((2, lone, (("keep",),))), (2, lone, (("table", (0, 1)),)))

    def test_many_states(self):
        for hall in (
            own.some_hall(own.EIGHT_WITH_FEW, 2, 3, own.some_undoable_rule),
            own.some_hall(own.FIVE_WEBS["three ways"], 3, 3, own.some_undoable_rule),
        ):
            order = own.some_orders(hall[1], 1)[0]
            back = undone_hall(hall)
            for state in states_of(hall)[::9]:
                self.assertEqual(own.day_of(back, order[::-1], own.day_of(hall, order, state)), state)

    def test_halls_that_cannot_be_undone(self):
        some = 0
        for hall in list(own.small_halls()) + [H, EVERY_SORT, THREE_STATES]:
            if own_paper(hall) is not None:
                some += 1
                with self.assertRaises(BadRules):
                    undone_hall(hall)
                # an order or a state that is none comes behind the hall
                for order, state in ((hall[1][0], states_of(hall)[0]), (None, None)):
                    with self.assertRaises(BadRules):
                        day_before(hall, order, state)
                    with self.assertRaises(BadRules):
                        far_before(hall, order, state, -1)
        self.assertGreater(some, 30)
        for function, more in ((undone_hall, ()), (day_before, (None, None)), (far_before, (None, None, None))):
            with self.assertRaises(BadHall):
                function(H[:2], *more)


class DayBeforeTest(unittest.TestCase):
    def test_against_days(self):
        for hall in undoable_halls():
            for order in own.some_orders(hall[1], 2):
                before = {made: state for state, made in own.table_of_days(hall, order).items()}
                for state in states_of(hall)[::2]:
                    found = day_before(hall, order, state)
                    self.assertEqual(found, before[state])
                    self.assertIs(type(found), tuple)

    def test_wrong_arguments(self):
        for order in (DIGITS[1:], list(DIGITS), None):
            with self.assertRaises(BadOrder):
                day_before(COUNTER, order, None)
        with self.assertRaises(BadState):
            day_before(COUNTER, DIGITS, (0, 0, 0, 0, True))


class FarBeforeTest(unittest.TestCase):
    def test_small_counts(self):
        for hall in undoable_halls():
            order = own.some_orders(hall[1], 1)[0]
            for state in states_of(hall)[::7]:
                self.assertEqual(far_before(hall, order, state, 0), state)
                self.assertEqual(far_before(hall, order, state, 1), day_before(hall, order, state))
                for count in range(6):
                    there = after(hall, order, state, count)
                    self.assertEqual(far_before(hall, order, there, count), state)

    def test_far_counts(self):
        for hall in undoable_halls():
            order = own.some_orders(hall[1], 1)[0]
            state = states_of(hall)[-1]
            for count in (10 ** 30, 10 ** 30 - 1, 10 ** 17 + 3, 500):
                found = far_before(hall, order, state, count)
                self.assertEqual(after(hall, order, found, count), state)
                self.assertEqual(far_before(hall, order, after(hall, order, state, count), count), state)

    def test_a_long_ring(self):
        order, state = DIGITS[::-1], (0, 0, 0, 0, 0)
        self.assertEqual(far_before(COUNTER, order, state, 1), (1, 1, 1, 1, 1))
        self.assertEqual(far_before(COUNTER, order, state, 3), (1, 0, 1, 1, 1))
        self.assertEqual(far_before(COUNTER, order, state, 32), state)
        self.assertEqual(far_before(COUNTER, order, state, 32 * 10 ** 20 + 31), (1, 0, 0, 0, 0))

    def test_what_is_no_count(self):
        for count in (10 ** 30 + 1, 10 ** 59, -1, True, False, None, "1", (1,), [0]):
            with self.assertRaises(BadCount):
                far_before(COUNTER, DIGITS, (0,) * 5, count)


class TurnedAboutTest(unittest.TestCase):
    def test_against_days_of_all_states(self):
        found = set()
        for hall in list(own.small_halls()) + [H, EVERY_SORT, THREE_STATES, own.BIG_TWO, own.BIG_THREE]:
            for order in own.some_orders(hall[1], 2):
                there, back = own.table_of_days(hall, order), own.table_of_days(hall, order[::-1])
                expected = [state for state in states_of(hall) if there[state] == back[state]]
                self.assertEqual(turned_about(hall, order), expected)
                self.assertIs(type(turned_about(hall, order)), list)
                found.add((len(expected) > 0, len(expected) < len(there)))
        self.assertGreaterEqual(found, {(True, True), (True, False)})

    def test_the_example(self):
        self.assertEqual(
            turned_about(H, ABC), [state for state in states_of(H) if day(H, ABC, state) == day(H, ABC[::-1], state)],
        )
        self.assertIn((0, 0, 0), turned_about(H, ABC))
        self.assertNotIn((1, 0, 0), turned_about(H, ("b", "a", "c")))


if __name__ == "__main__":
    unittest.main()
