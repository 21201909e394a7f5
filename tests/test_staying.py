"""States that stay, and how days come to them."""

import itertools
import unittest

from eachinturn.errors import BadHall, BadState, TooMany
from eachinturn.halls import states_of
from eachinturn.rings import rings
from eachinturn.staying import (
    days_to_rest, never_rest, rest_orders, restless, rests, staying, staying_with, stays,
)
from tests import own
from tests.helpers import EVERY_SORT, H, THREE_STATES, Hostile, LikeAll, as_lists, never_right, replaced
from tests.test_days import COUNTER, DIGITS

ABC = ("a", "b", "c")


def halls():
    return list(own.small_halls(many=3)) + [H, EVERY_SORT, THREE_STATES]


class StayingTest(unittest.TestCase):
    def test_against_steps(self):
        found = set()
        for hall in halls():
            expected = [state for state in states_of(hall) if own.stays_in(hall, state)]
            self.assertEqual(staying(hall), expected)
            self.assertIs(type(staying(hall)), list)
            for state in states_of(hall)[::4]:
                self.assertIs(stays(hall, state), state in expected)
            found.add(len(expected))
        self.assertGreaterEqual(found, {0, 1, 2})

    def test_of_many_states(self):
        for hall in (own.BIG_TWO, own.BIG_THREE):
            self.assertEqual(staying(hall), [state for state in states_of(hall) if own.stays_in(hall, state)])

    def test_the_hall_of_the_examples(self):
        self.assertEqual(staying(H), [(0, 0, 0), (1, 1, 1)])
        self.assertIs(stays(H, (0, 0, 0)), True)
        self.assertIs(stays(H, (1, 1, 1)), True)
        self.assertIs(stays(H, (1, 0, 1)), False)

    def test_rings_by_themselves_for_every_order(self):
        for hall in own.small_halls():
            for order in own.orders_of(hall[1])[::5]:
                self.assertEqual(staying(hall), [ring[0] for ring in rings(hall, order) if len(ring) == 1])

    def test_restless(self):
        for hall in halls():
            for state in states_of(hall)[::3]:
                found = restless(hall, state)
                expected = sorted(place for place in hall[1][0] if own.step_of(hall, state, place) != state)
                self.assertEqual(found, tuple(expected))
                self.assertIs(type(found), tuple)
                self.assertIs(stays(hall, state), found == ())

    def test_restless_as_names_compare(self):
        hall = (2, (("z", "b2", "a", "b10"), ()), (("most", 0),) * 4)
        self.assertEqual(restless(hall, (0, 0, 0, 0)), ("a", "b10", "b2", "z"))
        self.assertEqual(restless(hall, (0, 1, 1, 0)), ("b10", "z"))


class StayingWithTest(unittest.TestCase):
    def test_all_that_may_be_asked(self):
        for hall in own.small_halls():
            many = len(hall[1][0])
            asked = list(itertools.product((None,) + tuple(range(hall[0])), repeat=many))
            for partial in asked[::7] + [(None,) * many, asked[-1], asked[1]]:
                expected = [
                    state for state in staying(hall) if all(part in (None, own) for part, own in zip(partial, state))
                ]
                self.assertEqual(staying_with(hall, partial), expected)

    def test_nones_alone_states_alone_and_both(self):
        hall = (3, (("a", "b"), ()), (("keep",), ("keep",)))
        self.assertEqual(staying_with(hall, (None, None)), staying(hall))
        self.assertEqual(staying_with(hall, (2, 1)), [(2, 1)])
        self.assertEqual(staying_with(hall, (None, 1)), [(0, 1), (1, 1), (2, 1)])
        self.assertEqual(staying_with(hall, (0, None)), [(0, 0), (0, 1), (0, 2)])
        self.assertEqual(staying_with(H, (1, 1, 1)), [(1, 1, 1)])
        self.assertEqual(staying_with(H, (1, 0, 1)), [])
        self.assertEqual(staying_with(H, (0, None, 0)), [(0, 0, 0)])
        self.assertEqual(staying_with(H, (0, 1, None)), [])
        self.assertIs(type(staying_with(H, (1, 0, 1))), list)

    def test_what_is_none(self):
        wrong = never_right() + [
            (True, None, None), (None, None, False), (2, None, None), (-1, 0, 0), (None, None), (None,) * 4, (0, 0),
            [None, None, None], [0, 0, 0], ("0", None, None), (None, "", None), (None, (), None), (None, 10 ** 59, 0),
        ]
        for right in ((None, None, None), (0, 0, 0), (None, 0, None)):
            self.assertIn((0, 0, 0), staying_with(H, right))
            wrong.extend(as_lists(right))
            for instead in (True, False, Hostile(), LikeAll(), "", b"", 2, -1, [], {}, ()):
                wrong.extend(replaced(right, instead))
        for partial in wrong:
            with self.assertRaises(BadState):
                staying_with(H, partial)
        with self.assertRaises(BadState):
            staying_with(THREE_STATES, (3, None, None, None))


class DaysToRestTest(unittest.TestCase):
    def test_against_days(self):
        found = set()
        for hall in halls():
            order = own.some_orders(hall[1], 1)[0]
            days = own.table_of_days(hall, order)
            for state in states_of(hall)[::3]:
                ahead, ring = own.ring_behind(days, state)
                expected = ahead if own.stays_in(hall, ring[0]) else None
                self.assertEqual(days_to_rest(hall, order, state), expected)
                found.add(expected)
        self.assertGreaterEqual(found, {None, 0, 1, 2})

    def test_states_that_stay_need_no_day(self):
        for hall in own.small_halls():
            for state in staying(hall):
                for order in own.orders_of(hall[1])[:3]:
                    self.assertEqual(days_to_rest(hall, order, state), 0)
                    self.assertIs(type(days_to_rest(hall, order, state)), int)

    def test_by_hand(self):
        hall = (2, (("a", "b", "c", "d"), (("a", "b"), ("b", "c"), ("c", "d"))), (
            ("copy", "b"), ("copy", "c"), ("copy", "d"), ("most", 9),
        ))
        self.assertEqual(days_to_rest(hall, ("a", "b", "c", "d"), (0, 0, 0, 1)), 4)
        self.assertEqual(days_to_rest(hall, ("d", "c", "b", "a"), (0, 0, 0, 1)), 1)
        self.assertEqual(days_to_rest(H, ABC, (1, 0, 0)), 1)
        self.assertIsNone(days_to_rest(COUNTER, DIGITS[::-1], (0,) * 5))


class RestsTest(unittest.TestCase):
    def test_against_days(self):
        for hall in halls():
            for order in own.some_orders(hall[1], 2):
                days = own.table_of_days(hall, order)
                ends = [own.ring_behind(days, state)[1] for state in states_of(hall)]
                found = rests(hall, order)
                self.assertEqual(found, [(state, ends.count([state])) for state in staying(hall)])
                self.assertIs(type(found), list)
                self.assertEqual({type(pair) for pair in found} | {tuple}, {tuple})
                never = never_rest(hall, order)
                self.assertIs(type(never), int)
                self.assertEqual(never, sum(1 for ring in ends if len(ring) > 1))
                self.assertEqual(never + sum(many for _, many in found), len(states_of(hall)))

    def test_the_extremes(self):
        hall = (2, (("a", "b"), ()), (("keep",), ("keep",)))
        self.assertEqual(rests(hall, ("a", "b")), [((0, 0), 1), ((0, 1), 1), ((1, 0), 1), ((1, 1), 1)])
        self.assertEqual(never_rest(hall, ("a", "b")), 0)
        self.assertEqual(rests(COUNTER, DIGITS[::-1]), [])
        self.assertEqual(never_rest(COUNTER, DIGITS[::-1]), 32)

    def test_of_many_states(self):
        for hall in (own.BIG_TWO, own.BIG_THREE):
            order = own.some_orders(hall[1], 1)[0]
            days = own.table_of_days(hall, order)
            ends = [own.ring_behind(days, state)[1] for state in states_of(hall)]
            self.assertEqual(rests(hall, order), [(state, ends.count([state])) for state in staying(hall)])


class RestOrdersTest(unittest.TestCase):
    def test_against_all_orders(self):
        some = set()
        for hall in list(own.small_halls(many=2)) + [H]:
            web = hall[1]
            firsts = {}
            for order in own.orders_of(web):
                firsts.setdefault(own.arrows_of(web, order), order)
            for state in states_of(hall)[1::11]:
                for other in staying(hall)[:3]:
                    expected = sorted(
                        order for order in firsts.values()
                        if own.ring_behind(own.table_of_days(hall, order), state)[1] == [other]
                    )
                    found = rest_orders(hall, state, other)
                    self.assertEqual(found, expected)
                    self.assertIs(type(found), list)
                    some.add((len(found) > 0, len(found) < len(firsts)))
        self.assertEqual(some, {(True, True), (True, False), (False, True)})

    def test_the_example(self):
        # by (a, b, c) the first day ends at rest, by (b, a, c) all have 1 then
        found = rest_orders(H, (1, 0, 0), (0, 0, 0))
        self.assertIn(("a", "b", "c"), found)
        self.assertEqual(found, sorted(found))

    def test_names_compare_as_texts(self):
        hall = (2, (("z", "m", "a"), (("z", "m"),)), (("keep",),) * 3)
        self.assertEqual(rest_orders(hall, (1, 0, 1), (1, 0, 1)), [("m", "z", "a"), ("z", "m", "a")])
        self.assertEqual(rest_orders(hall, (1, 0, 1), (1, 1, 1)), [])

    def test_a_state_that_does_not_stay(self):
        for other in states_of(H)[1:-1] + [(0, 0), None, (0, 0, False), [0, 0, 0]]:
            with self.assertRaises(BadState):
                rest_orders(H, (1, 0, 0), other)
        with self.assertRaises(BadState):
            rest_orders(H, (1, 0), (0, 0, 0))

    def test_too_many_exactly_above_five_hundred_arrows(self):
        few = (2, own.JUST_FEW, (("least",),) * 7)
        nought = (0,) * 7
        self.assertEqual(len(rest_orders(few, (1, 0, 0, 0, 0, 0, 0), nought)), 492)
        for web in (own.JUST_MANY, own.EIGHT_WITH_FOURTEEN):
            hall = (2, web, (("odd",),) * len(web[0]))
            nought = (0,) * len(web[0])
            with self.assertRaises(TooMany):
                rest_orders(hall, nought, nought)

    def test_too_many_comes_behind_all_other_errors(self):
        hall = (2, own.JUST_MANY, (("odd",),) * 7)
        nought, one = (0,) * 7, (1,) + (0,) * 6
        self.assertIs(stays(hall, one), False)
        for state, other in ((nought, one), (nought, None), (None, nought), (nought, nought[:6]), (nought[:6], nought)):
            with self.assertRaises(BadState):
                rest_orders(hall, state, other)
        with self.assertRaises(BadHall):
            rest_orders((2, own.JUST_MANY, ()), nought, nought)


if __name__ == "__main__":
    unittest.main()
