"""Best orders."""

import time
import unittest

from eachinturn.best import better_swap, fewest_rings, longest_ring, order_score, quickest, slowest
from eachinturn.errors import BadHall, BadOrder, BadState, TooMany
from eachinturn.halls import states_of
from eachinturn.staying import staying
from tests import own
from tests.helpers import EVERY_SORT, H, THREE_STATES, WEB, Hostile
from tests.test_days import COUNTER, DIGITS

ABC = ("a", "b", "c")
MANY = (2, own.JUST_MANY, (("odd",),) * 7)
FEW = (2, own.JUST_FEW, (("odd",),) * 7)
# z is first by numbers, a by texts
BACKWARDS = (2, (("z", "m", "a"), (("z", "m"), ("m", "a"))), (("copy", "m"), ("keep",), ("copy", "m")))


def halls(many=2):
    quiet = [own.some_hall(web, 2, 4, own.some_quiet_rule) for web in own.SMALL_WEBS.values()]
    return list(own.small_halls(many=many)) + quiet + [H, BACKWARDS]


def own_days(hall, order, state):
    days, ring = own.ring_behind(own.table_of_days(hall, order), state)
    return days if len(ring) == 1 else None


class QuickestTest(unittest.TestCase):
    def test_against_all_orders(self):
        found = set()
        for hall in halls():
            orders = own.orders_of(hall[1])
            for state in states_of(hall)[::5]:
                days = [own_days(hall, order, state) for order in orders]
                rested = [count for count in days if count is not None]
                expected = None
                if rested:
                    expected = (min(rested), orders[days.index(min(rested))])
                self.assertEqual(quickest(hall, state), expected)
                latest = None
                if None not in days:
                    latest = (max(days), orders[days.index(max(days))])
                self.assertEqual(slowest(hall, state), latest)
                found.add((expected is None, latest is None, latest is not None and latest[0] > expected[0]))
        self.assertEqual(found, {(True, True, False), (False, True, False), (False, False, False), (False, False, True)})

    def test_the_example(self):
        self.assertEqual(quickest(H, (1, 0, 0)), (1, ABC))
        self.assertEqual(slowest(H, (1, 0, 0)), (2, ("c", "b", "a")))
        self.assertEqual(quickest(H, (0, 1, 1)), (1, ABC))

    def test_a_state_that_stays(self):
        for hall in halls():
            for state in staying(hall):
                self.assertEqual(quickest(hall, state), (0, hall[1][0]))
                self.assertEqual(slowest(hall, state), (0, hall[1][0]))

    def test_the_first_by_numbers(self):
        # all orders need one day
        self.assertEqual(quickest(BACKWARDS, (0, 1, 0)), (1, ("z", "m", "a")))
        self.assertEqual(slowest(BACKWARDS, (0, 1, 0)), (1, ("z", "m", "a")))
        # what is copied comes later the more places are ahead of the one that they copy
        row = (2, (("z", "a", "m"), (("z", "a"), ("a", "m"))), (("keep",), ("copy", "z"), ("copy", "a")))
        self.assertEqual(quickest(row, (1, 0, 0)), (1, ("z", "a", "m")))
        self.assertEqual(slowest(row, (1, 0, 0)), (2, ("z", "m", "a")))

    def test_none(self):
        # one that turns about each day
        turning = (2, (("a",), ()), (("table", (1, 0)),))
        self.assertIsNone(quickest(turning, (0,)))
        self.assertIsNone(slowest(turning, (0,)))
        self.assertIsNone(quickest((2, WEB, (("keep",), ("table", (1, 0) * 4), ("odd",))), (0, 0, 0)))
        # by (a, b, c) all have what c had; by (c, b, a) what a had goes round
        round_about = (2, (ABC, WEB[1] + (("c", "a"),)), (("copy", "c"), ("copy", "a"), ("copy", "b")))
        self.assertEqual(quickest(round_about, (1, 0, 0)), (1, ABC))
        self.assertIsNone(slowest(round_about, (1, 0, 0)))

    def test_wrong_arguments(self):
        for function in (quickest, slowest):
            for hall in (None, H[:2], list(H), Hostile()):
                with self.assertRaises(BadHall):
                    function(hall, None)
            for state in ((1, 0), (1, 0, True), [1, 0, 0], None, Hostile()):
                with self.assertRaises(BadState):
                    function(H, state)


class RingsTest(unittest.TestCase):
    def test_against_all_orders(self):
        unlike = set()
        for hall in list(own.small_halls(many=3)) + list(own.small_halls(rule=own.some_undoable_rule)):
            orders = own.orders_of(hall[1])
            lengths = [[len(ring) for ring in own.rings_of(own.table_of_days(hall, order))] for order in orders]
            longest = [max(told) for told in lengths]
            self.assertEqual(longest_ring(hall), (max(longest), orders[longest.index(max(longest))]))
            fewest = [len(told) for told in lengths]
            self.assertEqual(fewest_rings(hall), (min(fewest), orders[fewest.index(min(fewest))]))
            unlike |= {len(set(longest)) > 1, len(set(fewest)) > 1}
            unlike |= {("not the first", max(longest) > longest[0]), ("not the first", min(fewest) < fewest[0])}
        self.assertEqual(unlike, {True, False, ("not the first", True), ("not the first", False)})

    def test_by_hand(self):
        self.assertEqual(longest_ring(H), (1, ABC))
        self.assertEqual(fewest_rings(H), (2, ABC))
        self.assertEqual(longest_ring((2, WEB, (("keep",),) * 3)), (1, ABC))
        self.assertEqual(fewest_rings((2, WEB, (("keep",),) * 3)), (8, ABC))
        lone = (3, (("q",), ()), (("table", (1, 2, 0)),))
        self.assertEqual(longest_ring(lone), (3, ("q",)))
        self.assertEqual(fewest_rings(lone), (1, ("q",)))

    def test_many_rings(self):
        hall = own.some_hall(own.EIGHT_WITH_RINGS, 2, 2, own.some_undoable_rule)
        length, order = longest_ring(hall)
        self.assertEqual(max(len(ring) for ring in own.rings_of(own.table_of_days(hall, order))), length)
        number, order = fewest_rings(hall)
        self.assertEqual(len(own.rings_of(own.table_of_days(hall, order))), number)
        for other in own.some_orders(hall[1], 15):
            rings = own.rings_of(own.table_of_days(hall, other))
            self.assertLessEqual(max(len(ring) for ring in rings), length)
            self.assertGreaterEqual(len(rings), number)

    def test_wrong_arguments(self):
        for function in (longest_ring, fewest_rings):
            for hall in (None, H[:2], list(H), Hostile()):
                with self.assertRaises(BadHall):
                    function(hall)


class TooManyTest(unittest.TestCase):
    def test_each_exactly_above_five_hundred_arrows(self):
        for web in (own.JUST_MANY, own.EIGHT_WITH_FOURTEEN):
            hall = (2, web, (("odd",),) * len(web[0]))
            nought = (0,) * len(web[0])
            for function, more in ((quickest, (nought,)), (slowest, (nought,)), (longest_ring, ()), (fewest_rings, ())):
                with self.assertRaises(TooMany):
                    function(hall, *more)
        first = own.JUST_FEW[0]
        self.assertEqual(quickest(FEW, (0,) * 7), (0, first))
        self.assertEqual(slowest(FEW, (0,) * 7), (0, first))
        still = (2, own.JUST_FEW, (("keep",),) * 7)
        self.assertEqual(longest_ring(still), (1, first))
        self.assertEqual(fewest_rings(still), (128, first))

    def test_behind_all_other_errors(self):
        for function in (quickest, slowest):
            for state in (None, (0,) * 6, (True,) + (0,) * 6):
                with self.assertRaises(BadState):
                    function(MANY, state)
        for function, more in ((quickest, (None,)), (slowest, (None,)), (longest_ring, ()), (fewest_rings, ())):
            with self.assertRaises(BadHall):
                function(MANY[:2], *more)

    def test_not_of_the_others(self):
        order = own.JUST_MANY[0]
        self.assertIsNone(better_swap(MANY, order, (0,) * 7))
        self.assertEqual(type(order_score(MANY, order)), tuple)

    def test_eight_places_within_a_few_seconds(self):
        for rule in (own.some_rule, own.some_undoable_rule):
            hall = own.some_hall(own.EIGHT_WITH_RINGS, 2, 6, rule)
            state = own.states_of(hall)[77]
            start = time.perf_counter()
            for function, more in ((quickest, (state,)), (slowest, (state,)), (longest_ring, ()), (fewest_rings, ())):
                function(hall, *more)
            # far more than is needed, but less than going through all orders takes
            self.assertLess(time.perf_counter() - start, 20)


class BetterSwapTest(unittest.TestCase):
    def expected(self, hall, order, state):
        now = own_days(hall, order, state)
        for index in range(len(order) - 1):
            changed = list(order)
            changed[index:index + 2] = changed[index:index + 2][::-1]
            days = own_days(hall, tuple(changed), state)
            if days is not None and (now is None or days < now):
                return index
        return None

    def test_against_all_orders(self):
        found = set()
        for hall in halls():
            for order in own.some_orders(hall[1], 5):
                for state in states_of(hall)[::3]:
                    expected = self.expected(hall, order, state)
                    self.assertEqual(better_swap(hall, order, state), expected)
                    road = expected is not None and own.joined(hall[1], *order[expected:expected + 2])
                    found.add((expected, own_days(hall, order, state) is None, road))
        self.assertGreaterEqual(
            {(index, never) for index, never, _ in found},
            {(None, False), (None, True), (0, False), (1, False), (2, False), (0, True), (1, True)},
        )
        self.assertIn(True, [road for _, _, road in found])

    def test_neighbours_with_a_road_between_them(self):
        row = (2, (("z", "a"), (("z", "a"),)), (("keep",), ("copy", "z")))
        chain = (2, (("z", "a", "m"), (("z", "a"), ("a", "m"))), (("keep",), ("copy", "z"), ("copy", "a")))
        self.assertIsNone(better_swap(row, ("a", "z"), (1, 0)))
        self.assertEqual(better_swap(chain, ("z", "m", "a"), (1, 0, 0)), 1)
        self.assertEqual(better_swap(chain, ("m", "a", "z"), (1, 0, 0)), 0)
        self.assertIsNone(better_swap(chain, ("z", "a", "m"), (1, 0, 0)))

    def test_a_state_that_stays(self):
        for hall in halls():
            for state in staying(hall):
                self.assertIsNone(better_swap(hall, hall[1][0][::-1], state))

    def test_one_place(self):
        self.assertIsNone(better_swap((2, (("q",), ()), (("most", 0),)), ("q",), (0,)))

    def test_wrong_arguments(self):
        for hall, order, state, error in (
            (None, None, None, BadHall), (H[:2], ABC, (1, 0, 0), BadHall), (H, None, None, BadOrder),
            (H, ("a", "b"), (1, 0, 0), BadOrder), (H, ABC, None, BadState), (H, ABC, (1, 0, True), BadState),
        ):
            with self.assertRaises(error):
                better_swap(hall, order, state)


class OrderScoreTest(unittest.TestCase):
    def test_against_all_states(self):
        found = set()
        for hall in halls() + [EVERY_SORT, THREE_STATES, own.BIG_TWO]:
            for order in own.some_orders(hall[1], 2):
                days = [own_days(hall, order, state) for state in own.states_of(hall)]
                rested = [count for count in days if count is not None]
                expected = (len(rested), max(rested, default=0), sum(rested))
                self.assertEqual(order_score(hall, order), expected)
                self.assertIs(type(order_score(hall, order)), tuple)
                found.add((len(rested) > 0, len(rested) == len(days)))
        self.assertEqual(found, {(True, True), (True, False), (False, False)})

    def test_by_hand(self):
        # two states stay, all others rest behind one day
        self.assertEqual(order_score(H, ("b", "a", "c")), (8, 1, 6))
        self.assertEqual(order_score((2, WEB, (("keep",),) * 3), ABC), (8, 0, 0))
        self.assertEqual(order_score(COUNTER, DIGITS[::-1]), (0, 0, 0))

    def test_wrong_arguments(self):
        with self.assertRaises(BadHall):
            order_score(H[:2], None)
        for order in (None, ("a", "b"), ["a", "b", "c"]):
            with self.assertRaises(BadOrder):
                order_score(H, order)


if __name__ == "__main__":
    unittest.main()
