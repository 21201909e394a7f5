"""Quiet halls: their weights, and the states to which they come to rest."""

import itertools
import unittest

from eachinturn.days import day, step
from eachinturn.errors import BadHall, BadOrder, BadRules, BadState
from eachinturn.halls import states_of, table_of
from eachinturn.staying import staying
from eachinturn.weights import (
    lightest, rest_bound, rest_reached, rest_steps, rest_steps_hold, weight, weights_down,
)
from tests import own
from tests.helpers import H, WEB, Hostile, LikeAll, as_lists, never_right

ABC = ("a", "b", "c")
QUIET = (2, WEB, (("most", 1), ("most", 2), ("most", 1)))
# By numbers z is first, by texts a is.
BACKWARDS = (2, (("z", "m", "a"), (("a", "m"), ("m", "z"))), (("most", 1), ("most", 0), ("most", 1)))
BIG_QUIET = own.some_hall(own.EIGHT_WITH_FOURTEEN, 2, 5, own.some_quiet_rule)
BIG_QUIETS = [BIG_QUIET] + [own.some_hall(web, 2, 9, own.some_quiet_rule) for web in own.EIGHT_WEBS]

# What is no quiet hall, each of them a hall
NOT_QUIET = [
    H,
    (3, WEB, QUIET[2]),
    (2, WEB, QUIET[2][:2] + (("keep",),)),
    (2, WEB, (("copy", "b"),) + QUIET[2][1:]),
    (2, WEB, (("most", 1), ("table", table_of(QUIET, "b")), ("most", 1))),
    (2, WEB, (("most", 1), ("most", 2), ("sum", ((0, 1), (0, 1))))),
    (3, (("a",), ()), (("most", 0),)),
]


def own_weight(hall, state):
    _, (places, roads), rules = hall
    now = dict(zip(places, state))
    total = 0
    for place, (_, n) in zip(places, rules):
        total += (2 * n - 1) * now[place]
    for one, other in roads:
        total -= 2 * now[one] * now[other]
    return total


def own_down(hall, order, state):
    told, count = [], 1
    while not own.stays_in(hall, state):
        for place in order:
            behind = own.step_of(hall, state, place)
            if behind != state:
                told.append((count, place, own_weight(hall, behind)))
            state = behind
        count += 1
    return told


def own_reached(hall, state):
    """All states to which steps lead."""
    found, left = {state}, [state]
    while left:
        now = left.pop()
        for place in hall[1][0]:
            behind = own.step_of(hall, now, place)
            if behind not in found:
                found.add(behind)
                left.append(behind)
    return found


def led(hall, state, places):
    for place in places:
        state = own.step_of(hall, state, place)
    return state


def halls():
    return list(own.quiet_halls()) + [QUIET, BACKWARDS]


class WeightTest(unittest.TestCase):
    def test_by_hand(self):
        # 1 for a, 3 for b, 1 for c, and 2 less for each road with both places on
        expected = [0, 1, 3, 2, 1, 2, 2, 1]
        self.assertEqual([weight(QUIET, state) for state in states_of(QUIET)], expected)
        self.assertEqual(weight((2, (("q",), ()), (("most", 0),)), (1,)), -1)
        self.assertEqual(weight((2, (("q",), ()), (("most", 9),)), (1,)), 17)

    def test_all_states(self):
        for hall in halls() + BIG_QUIETS:
            for state in states_of(hall):
                found = weight(hall, state)
                self.assertEqual(found, own_weight(hall, state))
                self.assertIs(type(found), int)

    def test_eight_places_and_fourteen_roads(self):
        web = own.EIGHT_WITH_FOURTEEN
        hall = (2, web, (("most", 3),) * 8)
        self.assertEqual(weight(hall, (1,) * 8), 8 * 5 - 2 * 14)
        self.assertEqual(weight(hall, (0,) * 8), 0)
        # h, c, a: the roads (h, c), (c, a) and (a, h)
        self.assertEqual(weight(hall, (1, 1, 1, 0, 0, 0, 0, 0)), 3 * 5 - 2 * 3)

    def test_each_step_that_changes_a_state_makes_it_lighter(self):
        for hall in halls():
            for state in states_of(hall):
                for place in hall[1][0]:
                    behind = step(hall, state, place)
                    if behind != state:
                        self.assertLess(weight(hall, behind), weight(hall, state))

    def test_halls_that_are_not_quiet(self):
        order, state = ABC, (0, 0, 0)
        for hall in NOT_QUIET:
            for function, right in (
                (weight, (state,)), (weights_down, (order, state)), (rest_bound, ()), (lightest, ()),
                (rest_reached, (state,)), (rest_steps, (state, state)), (rest_steps_hold, (state, state, ())),
            ):
                for more in (right, tuple(None for _ in right), tuple(Hostile() for _ in right)):
                    with self.assertRaises(BadRules):
                        function(hall, *more)
        for function, many in ((weight, 1), (weights_down, 2), (rest_bound, 0), (lightest, 0), (rest_reached, 1)):
            with self.assertRaises(BadHall):
                function(QUIET[:2], *[None] * many)


class WeightsDownTest(unittest.TestCase):
    def test_by_hand(self):
        self.assertEqual(weights_down(QUIET, ABC, (1, 0, 0)), [(1, "a", 0)])
        self.assertEqual(weights_down(QUIET, ABC, (0, 1, 1)), [(1, "a", 1)])
        self.assertEqual(weights_down(QUIET, ("c", "b", "a"), (0, 1, 0)), [(1, "c", 2), (1, "b", 1), (2, "c", 0)])
        self.assertEqual(weights_down(QUIET, ("b", "c", "a"), (1, 1, 0)), [(1, "b", 1), (1, "a", 0)])

    def test_against_own_steps(self):
        days = set()
        for hall in halls():
            for order in own.orders_of(hall[1])[::3]:
                for state in states_of(hall):
                    found = weights_down(hall, order, state)
                    self.assertEqual(found, own_down(hall, order, state))
                    days |= {told[0] for told in found}
        self.assertGreaterEqual(days, {1, 2})

    def test_of_eight_places(self):
        days = set()
        for hall in BIG_QUIETS:
            for order in own.some_orders(hall[1], 2):
                for state in states_of(hall)[::7]:
                    found = weights_down(hall, order, state)
                    self.assertEqual(found, own_down(hall, order, state))
                    days |= {told[0] for told in found}
        self.assertGreaterEqual(days, {1, 2})

    def test_many_days(self):
        # each place goes on with the one behind it, one a day
        web = (own.EIGHT_WITHOUT[0], tuple(zip(own.EIGHT_WITHOUT[0], own.EIGHT_WITHOUT[0][1:])))
        hall = (2, web, (("most", 0),) + (("most", 1),) * 7)
        self.assertEqual(
            weights_down(hall, web[0][::-1], (0,) * 8), [(at + 1, place, -1 - at) for at, place in enumerate(web[0])],
        )

    def test_a_state_that_stays(self):
        for hall in halls():
            for state in staying(hall):
                self.assertEqual(weights_down(hall, hall[1][0], state), [])

    def test_each_weight_is_less_than_the_one_ahead(self):
        for hall in BIG_QUIETS:
            for state in states_of(hall)[::11]:
                weights = [weight(hall, state)] + [told[2] for told in weights_down(hall, hall[1][0], state)]
                self.assertEqual(weights, sorted(set(weights), reverse=True))
                last = weights_down(hall, hall[1][0], state)
                end = state
                for _ in range(last[-1][0] if last else 0):
                    end = day(hall, hall[1][0], end)
                self.assertIn(end, staying(hall))

    def test_wrong_arguments(self):
        with self.assertRaises(BadOrder):
            weights_down(QUIET, ("a", "b"), None)
        with self.assertRaises(BadState):
            weights_down(QUIET, ABC, (1, 0, True))


class BoundTest(unittest.TestCase):
    def test_against_all_states(self):
        for hall in halls() + BIG_QUIETS:
            weights = {state: own_weight(hall, state) for state in states_of(hall)}
            least = min(weights.values())
            self.assertEqual(rest_bound(hall), max(weights.values()) - least)
            self.assertEqual(lightest(hall), [state for state in states_of(hall) if weights[state] == least])
            self.assertIs(type(lightest(hall)), list)
            for state in lightest(hall):
                self.assertTrue(own.stays_in(hall, state))

    def test_by_hand(self):
        self.assertEqual(rest_bound(QUIET), 3)
        self.assertEqual(lightest(QUIET), [(0, 0, 0)])
        self.assertEqual(rest_bound((2, (("q",), ()), (("most", 0),))), 1)
        self.assertEqual(lightest((2, (("q",), ()), (("most", 0),))), [(1,)])
        # both on: 1 for each place, and 2 less for the road
        pair = (2, (("q", "b"), (("q", "b"),)), (("most", 1), ("most", 1)))
        self.assertEqual(lightest(pair), [(0, 0), (1, 1)])

    def test_no_more_steps_change_a_state(self):
        for hall in halls():
            bound = rest_bound(hall)
            # how many steps that change a state can follow, by the weights from the least one on
            most = {}
            for state in sorted(states_of(hall), key=lambda state: own_weight(hall, state)):
                behind = [own.step_of(hall, state, place) for place in hall[1][0]]
                most[state] = max([1 + most[other] for other in behind if other != state], default=0)
            self.assertLessEqual(max(most.values()), bound)


class RestReachedTest(unittest.TestCase):
    def test_against_all_sequences_of_steps(self):
        many = set()
        for hall in halls():
            for state in states_of(hall):
                found = rest_reached(hall, state)
                expected = sorted(other for other in own_reached(hall, state) if own.stays_in(hall, other))
                self.assertEqual(found, expected)
                self.assertIs(type(found), list)
                many.add(len(found))
        self.assertGreaterEqual(many, {1, 2})

    def test_of_eight_places(self):
        for hall in BIG_QUIETS:
            for state in states_of(hall)[::41]:
                expected = sorted(other for other in own_reached(hall, state) if own.stays_in(hall, other))
                self.assertEqual(rest_reached(hall, state), expected)

    def test_a_state_that_stays_reaches_itself_alone(self):
        for hall in halls() + BIG_QUIETS:
            for state in staying(hall):
                self.assertEqual(rest_reached(hall, state), [state])

    def test_by_hand(self):
        self.assertEqual(rest_reached(QUIET, (1, 1, 0)), [(0, 0, 0), (1, 1, 1)])
        self.assertEqual(rest_reached(QUIET, (1, 0, 0)), [(0, 0, 0)])


class RestStepsTest(unittest.TestCase):
    def first_steps(self, hall, state, other):
        """The first of the shortest sequences, found by trying one after the other."""
        for many in itertools.count():
            for places in itertools.product(hall[1][0], repeat=many):
                if led(hall, state, places) == other:
                    return places

    def test_against_all_sequences(self):
        lengths = set()
        for hall in [hall for hall in halls() if len(hall[2]) < 4][::2] + [QUIET, BACKWARDS]:
            for state in states_of(hall):
                for other in rest_reached(hall, state):
                    found = rest_steps(hall, state, other)
                    self.assertEqual(found, self.first_steps(hall, state, other))
                    self.assertIs(type(found), tuple)
                    lengths.add(len(found))
        self.assertGreaterEqual(lengths, {0, 1, 2, 3})

    def test_of_four_places(self):
        for hall in [hall for hall in own.quiet_halls(many=1) if len(hall[2]) == 4]:
            for state in states_of(hall)[::5]:
                for other in rest_reached(hall, state):
                    self.assertEqual(rest_steps(hall, state, other), self.first_steps(hall, state, other))

    def test_of_eight_places(self):
        for hall in BIG_QUIETS:
            for state in states_of(hall)[::50]:
                for other in rest_reached(hall, state):
                    found = rest_steps(hall, state, other)
                    self.assertEqual(led(hall, state, found), other)
                    # no step is wasted: each changes the state
                    self.assertEqual(len({led(hall, state, found[:at]) for at in range(len(found) + 1)}), len(found) + 1)

    def test_the_first_by_numbers(self):
        self.assertEqual(rest_steps(BACKWARDS, (0, 0, 0), (1, 1, 1)), ("m", "z", "a"))
        alone = (2, (("z", "a"), ()), (("most", 0), ("most", 0)))
        self.assertEqual(rest_steps(alone, (0, 0), (1, 1)), ("z", "a"))

    def test_a_state_that_stays(self):
        for hall in halls():
            for state in staying(hall):
                self.assertEqual(rest_steps(hall, state, state), ())

    def test_states_that_are_not_reached(self):
        some = {True: 0, False: 0}
        for hall in halls():
            for state in states_of(hall)[::3]:
                reached = rest_reached(hall, state)
                for other in states_of(hall):
                    if other not in reached:
                        some[other in staying(hall)] += 1
                        with self.assertRaises(BadState):
                            rest_steps(hall, state, other)
                        with self.assertRaises(BadState):
                            rest_steps_hold(hall, state, other, ())
        self.assertGreater(min(some.values()), 10)
        # steps lead to it, but it does not stay
        with self.assertRaises(BadState):
            rest_steps(QUIET, (1, 1, 0), (1, 0, 0))
        with self.assertRaises(BadState):
            rest_steps(QUIET, (1, 0, 0), (1, 0, 0))


class RestStepsHoldTest(unittest.TestCase):
    def test_what_rest_steps_returns(self):
        for hall in halls():
            for state in states_of(hall)[::2]:
                for other in rest_reached(hall, state):
                    self.assertIs(rest_steps_hold(hall, state, other, rest_steps(hall, state, other)), True)

    def test_all_short_tuples(self):
        for hall in (QUIET, BACKWARDS):
            for state in states_of(hall):
                for other in rest_reached(hall, state):
                    for many in range(5):
                        for places in itertools.product(hall[1][0], repeat=many):
                            expected = led(hall, state, places) == other
                            self.assertIs(rest_steps_hold(hall, state, other, places), expected)

    def test_longer_ones(self):
        self.assertIs(rest_steps_hold(QUIET, (1, 1, 0), (1, 1, 1), ("a", "c", "a", "b", "b", "c")), True)
        self.assertIs(rest_steps_hold(QUIET, (1, 1, 0), (0, 0, 0), ("b", "a") * 300), True)
        self.assertIs(rest_steps_hold(QUIET, (1, 1, 0), (1, 1, 1), ("b", "a") * 300), False)
        # from a state that stays each tuple of places leads to it
        self.assertIs(rest_steps_hold(QUIET, (1, 1, 1), (1, 1, 1), ()), True)
        self.assertIs(rest_steps_hold(QUIET, (1, 1, 1), (1, 1, 1), ABC * 9), True)

    def test_what_is_no_tuple_of_places(self):
        wrong = never_right() + list(as_lists(("b", "a"))) + [
            ("b", "a", "d"), ("b", "a", None), ("b", "a", 0), ("b", "a", True), "ba", ("ba",), ("b", ("a",)), (1, 0),
            ("b", "a", LikeAll()), (Hostile(),), ("b", "a", Hostile()), ("B", "a"), ("b", "a", ""), {"b": 0, "a": 1},
        ]
        for thing in wrong:
            self.assertIs(rest_steps_hold(QUIET, (1, 1, 0), (0, 0, 0), thing), False)
        for thing in wrong:
            self.assertIs(rest_steps_hold(QUIET, (1, 1, 1), (1, 1, 1), thing), False)

    def test_the_errors_of_its_partner_come_first(self):
        for thing in ((), None, Hostile()):
            for state, other in ((None, None), ((1, 1), (0, 0, 0)), ((1, 1, 0), (1, 0, 1)), ((1, 1, 0), [1, 1, 1])):
                with self.assertRaises(BadState):
                    rest_steps_hold(QUIET, state, other, thing)


if __name__ == "__main__":
    unittest.main()
