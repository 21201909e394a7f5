"""Arrows and alike orders, and orders for arrows."""

import itertools
import unittest

from eachinturn.alike import (
    are_alike, arrow_ring, arrow_ring_holds, arrows, count_alike, first_alike, order_for,
)
from eachinturn.days import day
from eachinturn.errors import BadArrows
from eachinturn.halls import states_of
from tests import own
from tests.helpers import EIGHT, PAIRS, WEB, Hostile, LikeAll, as_lists, never_right, put_in, replaced

TRIANGLE = (("a", "b", "c"), (("a", "b"), ("b", "c"), ("c", "a")))
ROUND = (("a", "b"), ("b", "c"), ("c", "a"))


def alike_groups(web):
    """All orders of a web, by their arrows, each list by numbers."""
    groups = {}
    for order in own.orders_of(web):
        groups.setdefault(own.arrows_of(web, order), []).append(order)
    return groups


class ArrowsTest(unittest.TestCase):
    def test_the_example(self):
        self.assertEqual(arrows(WEB, ("a", "b", "c")), (("a", "b"), ("b", "c")))
        self.assertEqual(arrows(WEB, ("b", "a", "c")), (("b", "a"), ("b", "c")))
        self.assertEqual(arrows(WEB, ("c", "b", "a")), (("b", "a"), ("c", "b")))

    def test_in_the_sequence_of_the_roads(self):
        for web in own.WEBS.values():
            for order in own.orders_of(web):
                found = arrows(web, order)
                self.assertEqual(found, own.arrows_of(web, order))
                self.assertIs(type(found), tuple)
                self.assertEqual({type(pair) for pair in found} | {tuple}, {tuple})
                self.assertEqual([frozenset(pair) for pair in found], [frozenset(road) for road in web[1]])

    def test_whatever_the_direction_of_a_road(self):
        order = ("c", "a", "d", "b")
        for turned in itertools.product((1, -1), repeat=4):
            roads = tuple(road[::way] for road, way in zip(own.R[1], turned))
            self.assertEqual(arrows((own.R[0], roads), order), (("a", "b"), ("c", "b"), ("c", "d"), ("a", "d")))

    def test_without_roads(self):
        self.assertEqual(arrows(own.EIGHT_WITHOUT, EIGHT), ())


class AlikeTest(unittest.TestCase):
    def test_against_all_orders(self):
        for web in own.SMALL_WEBS.values():
            for order in own.orders_of(web):
                for other in own.orders_of(web):
                    expected = own.arrows_of(web, order) == own.arrows_of(web, other)
                    self.assertIs(are_alike(web, order, other), expected)

    def test_first_alike_and_count_alike(self):
        for web in own.WEBS.values():
            for told, orders in alike_groups(web).items():
                for order in orders:
                    self.assertEqual(first_alike(web, order), orders[0])
                    self.assertEqual(count_alike(web, order), len(orders))
                self.assertEqual(order_for(web, told), orders[0])

    def test_by_numbers(self):
        web = (("z", "m", "a"), (("a", "z"),))
        self.assertEqual(first_alike(web, ("a", "m", "z")), ("m", "a", "z"))
        self.assertEqual(first_alike(web, ("z", "a", "m")), ("z", "m", "a"))
        self.assertEqual(order_for(web, (("a", "z"),)), ("m", "a", "z"))
        self.assertEqual(order_for(web, (("z", "a"),)), ("z", "m", "a"))

    def test_eight_places_without_roads(self):
        for order in (EIGHT, EIGHT[::-1]):
            self.assertEqual(count_alike(own.EIGHT_WITHOUT, order), 40320)
            self.assertEqual(first_alike(own.EIGHT_WITHOUT, order), own.EIGHT_WITHOUT[0])
            self.assertIs(are_alike(own.EIGHT_WITHOUT, order, own.EIGHT_WITHOUT[0]), True)

    def test_eight_places_with_roads(self):
        for web in (own.EIGHT_WITH_FEW, own.EIGHT_WITH_FOURTEEN):
            groups = alike_groups(web)
            for order in own.some_orders(web, 30):
                orders = groups[own.arrows_of(web, order)]
                self.assertEqual(count_alike(web, order), len(orders))
                self.assertEqual(first_alike(web, order), orders[0])
                self.assertIs(are_alike(web, order, orders[-1]), True)
                self.assertIs(are_alike(web, order, order[::-1]), False)

    def test_a_way_of_eight(self):
        web = (EIGHT, tuple(zip(EIGHT, EIGHT[1:])))
        self.assertEqual(count_alike(web, EIGHT), 1)
        self.assertEqual(count_alike(web, EIGHT[::-1]), 1)
        self.assertEqual(count_alike(web, ("a", "c", "e", "g", "b", "d", "f", "h")), 1385)

    def test_alike_orders_have_the_same_days(self):
        for seed, web in enumerate(own.SMALL_WEBS.values()):
            hall = own.some_hall(web, 2, seed)
            for orders in alike_groups(web).values():
                for state in states_of(hall)[::2]:
                    self.assertEqual(len({day(hall, order, state) for order in orders}), 1)


def directions(web):
    """Each choice of a direction for each road."""
    return itertools.product(*[(road, road[::-1]) for road in web[1]])


class OrderForTest(unittest.TestCase):
    def test_each_choice_of_directions(self):
        for web in own.WEBS.values():
            groups = alike_groups(web)
            for told in directions(web):
                order, ring = order_for(web, told), arrow_ring(web, told)
                self.assertEqual(order, groups[told][0] if told in groups else None)
                self.assertIs(ring is None, told in groups)
                self.assertIs(arrow_ring_holds(web, told, ring), told not in groups)
                if ring is not None:
                    self.check_ring(told, ring)

    def check_ring(self, told, ring):
        self.assertIs(type(ring), tuple)
        self.assertGreaterEqual(len(ring), 3)
        self.assertEqual(len(set(ring)), len(ring))
        for at in range(len(ring)):
            self.assertIn((ring[at - 1], ring[at]), told)

    def test_fourteen_roads(self):
        web = own.EIGHT_WITH_FOURTEEN
        self.assertEqual(order_for(web, arrows(web, EIGHT)), first_alike(web, EIGHT))
        for told in list(directions(web))[::97]:
            order, ring = order_for(web, told), arrow_ring(web, told)
            self.assertNotEqual(order is None, ring is None)
            if order is None:
                self.check_ring(told, ring)
                self.assertIs(arrow_ring_holds(web, told, ring), True)
            else:
                self.assertEqual(own.arrows_of(web, order), told)

    def test_without_roads(self):
        self.assertEqual(order_for(own.EIGHT_WITHOUT, ()), own.EIGHT_WITHOUT[0])
        self.assertIsNone(arrow_ring(own.EIGHT_WITHOUT, ()))

    def test_what_are_no_arrows(self):
        right = (("a", "b"), ("b", "c"), ("c", "a"))
        wrong = never_right() + list(as_lists(right)) + [
            right[:2], right + (("a", "b"),), right[1:] + right[:1], (("a", "b"), ("a", "b"), ("c", "a")),
            (("a", "b"), ("b", "c"), ("b", "a")), (("a", "c"), ("b", "c"), ("c", "a")),
            (("a", "a"), ("b", "c"), ("c", "a")), (("a", "b"), ("b", "c"), ("c", "a", "b")),
            (("a", "b"), ("b", "c"), ("c",)), ("ab", "bc", "ca"), (("a", "b"), ("b", "c"), "ca"),
            (("a", "d"), ("b", "c"), ("c", "a")), (right,), (("A", "b"), ("b", "c"), ("c", "a")), (),
        ] + [told for told in put_in(right, "c")]
        for instead in (None, True, 1, Hostile(), LikeAll(), "", "d", (), []):
            wrong.extend(replaced(right, instead))
        for thing in wrong:
            for function in (order_for, arrow_ring):
                with self.assertRaises(BadArrows):
                    function(TRIANGLE, thing)
            with self.assertRaises(BadArrows):
                arrow_ring_holds(TRIANGLE, thing, ("a", "b", "c"))

    def test_arrows_for_other_webs(self):
        for function in (order_for, arrow_ring):
            with self.assertRaises(BadArrows):
                function(own.EIGHT_WITHOUT, (("h", "c"),))
            with self.assertRaises(BadArrows):
                function(WEB, ())


class ArrowRingHoldsTest(unittest.TestCase):
    def test_rings_from_each_place_on(self):
        for ring in (("a", "b", "c"), ("b", "c", "a"), ("c", "a", "b")):
            self.assertIs(arrow_ring_holds(TRIANGLE, ROUND, ring), True)
            self.assertIs(arrow_ring_holds(TRIANGLE, ROUND, ring[::-1]), False)

    def test_what_is_none(self):
        for thing in (
            ("a", "b"), ("a",), (), ("a", "b", "c", "a"), ("a", "b", "c", "a", "b", "c"), ("a", "a", "a"), "abc",
            ("a", "b", "b"), ("a", "b", "d"), ["a", "b", "c"], (("a", "b"), ("b", "c"), ("c", "a")), ("a", "b", None),
        ):
            self.assertIs(arrow_ring_holds(TRIANGLE, ROUND, thing), False)

    def test_arrows_against(self):
        for told in directions(TRIANGLE):
            expected = told in (ROUND, tuple(pair[::-1] for pair in ROUND))
            found = [arrow_ring_holds(TRIANGLE, told, ring) for ring in (("a", "b", "c"), ("a", "c", "b"))]
            self.assertEqual(sum(found), 1 if expected else 0)

    def test_all_tuples_of_places(self):
        web = own.SMALL_WEBS["each two of four"]
        for told in list(directions(web))[::5]:
            for many in range(1, 6):
                for thing in itertools.product(web[0], repeat=many):
                    expected = len(set(thing)) == many >= 3 and all(
                        (thing[at - 1], thing[at]) in told for at in range(many)
                    )
                    self.assertIs(arrow_ring_holds(web, told, thing), expected)

    def test_any_object(self):
        for thing in never_right():
            self.assertIs(arrow_ring_holds(TRIANGLE, ROUND, thing), False)
            self.assertIs(arrow_ring_holds(WEB, (("a", "b"), ("b", "c")), thing), False)
        for instead in never_right():
            for thing in replaced(("a", "b", "c"), instead):
                self.assertIs(arrow_ring_holds(TRIANGLE, ROUND, thing), False)


class EightTest(unittest.TestCase):
    def test_long_rings_of_arrows(self):
        web = (EIGHT, tuple(zip(EIGHT, EIGHT[1:] + EIGHT[:1])))
        self.assertIsNone(order_for(web, web[1]))
        self.assertEqual(len(arrow_ring(web, web[1])), 8)
        self.assertIs(arrow_ring_holds(web, web[1], EIGHT), True)
        for at in range(8):
            told = web[1][:at] + (web[1][at][::-1],) + web[1][at + 1:]
            self.assertIsNone(arrow_ring(web, told))
            self.assertIs(arrow_ring_holds(web, told, EIGHT), False)

    def test_places_behind_a_ring_are_left_out(self):
        web = (EIGHT, PAIRS[:2] + (("b", "c"), ("c", "d"), ("e", "a"), ("d", "f")))
        told = (("a", "b"), ("c", "a"), ("b", "c"), ("c", "d"), ("e", "a"), ("d", "f"))
        self.assertEqual(set(arrow_ring(web, told)), {"a", "b", "c"})
        self.assertIs(arrow_ring_holds(web, told, ("a", "b", "c")), True)


if __name__ == "__main__":
    unittest.main()
