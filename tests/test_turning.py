"""Turns: steps forward around rings, moves from one order to another, and rings between those of unlike classes."""

import itertools
import random
import unittest

from eachinturn.errors import BadMoves, BadRing
from eachinturn.turning import (
    forward, moved_order, moves_hold, moves_to, ring_between, ring_between_holds, ring_counts,
)
from tests import own
from tests.helpers import EIGHT, WEB, Hostile, LikeAll, as_lists, never_right, put_in, replaced

ABC, BAC = ("a", "b", "c"), ("b", "a", "c")


def rings_of(web):
    """All rings of a web, from each of their places on and in both directions."""
    found = []
    for many in range(3, len(web[0]) + 1):
        for ring in itertools.permutations(web[0], many):
            if all(own.joined(web, ring[at - 1], ring[at]) for at in range(many)):
                found.append(ring)
    return found


def sorts_of_class(web):
    """A dict of each order's first order of its class."""
    return {order: first for first, orders in own.classes_of(web).items() for order in orders}


class ForwardTest(unittest.TestCase):
    def test_rings_from_each_place_in_both_directions(self):
        many = 0
        for web in own.WEBS.values():
            for ring in rings_of(web):
                for order in own.orders_of(web)[::5]:
                    self.assertEqual(forward(web, order, ring), own.forward_of(order, ring))
                    self.assertEqual(forward(web, order, ring[1:] + ring[:1]), forward(web, order, ring))
                    self.assertEqual(forward(web, order, ring[::-1]), len(ring) - forward(web, order, ring))
                    many += 1
        self.assertGreater(many, 500)

    def test_around_r(self):
        ring = ("a", "b", "c", "d")
        self.assertEqual(forward(own.R, ("a", "b", "c", "d"), ring), 3)
        self.assertEqual(forward(own.R, ("d", "c", "b", "a"), ring), 1)
        self.assertEqual(forward(own.R, ("a", "c", "b", "d"), ring), 2)

    def test_eight_places(self):
        web = (EIGHT, tuple(zip(EIGHT, EIGHT[1:] + EIGHT[:1])))
        self.assertEqual(forward(web, EIGHT, EIGHT), 7)
        self.assertEqual(forward(web, EIGHT, EIGHT[::-1]), 1)
        self.assertEqual(forward(web, EIGHT[::-1], EIGHT), 1)

    def test_what_is_no_ring(self):
        web = own.SMALL_WEBS["two rings that share a road"]  # all roads but that of n and k
        for ring in (
            ("z", "a"), ("z",), (), ("z", "a", "z"), ("z", "a", "n", "z"), ("z", "n", "a", "z", "n", "a"),
            ("z", "n", "k"), ("n", "k", "a"), ("a", "n", "k", "z"), ("z", "a", "b"), ["z", "a", "n"], "zan",
            (("z", "a"), ("a", "n"), ("n", "z")), ("z", "a", None), ("z", "a", "A"), ("z", "a", True),
        ):
            with self.assertRaises(BadRing):
                forward(web, ("z", "a", "n", "k"), ring)
        self.assertEqual(forward(web, ("z", "a", "n", "k"), ("z", "a", "n")), 2)

    def test_any_object(self):
        wrong = never_right() + list(as_lists(ABC))
        for instead in never_right():
            wrong.extend(replaced(ABC, instead))
        web = (ABC, (("a", "b"), ("b", "c"), ("a", "c")))
        for thing in wrong:
            with self.assertRaises(BadRing):
                forward(web, BAC, thing)
            self.assertIs(ring_between_holds(web, ABC, BAC, thing), False)

    def test_webs_without_rings(self):
        for ring in (ABC, ("a", "b"), ()):
            with self.assertRaises(BadRing):
                forward(WEB, ABC, ring)


class MovedOrderTest(unittest.TestCase):
    def test_the_example(self):
        self.assertEqual(moved_order(WEB, ABC, [("turn",), ("swap", 1)]), BAC)
        self.assertEqual(moved_order(WEB, ABC, [("turn",)]), ("b", "c", "a"))
        self.assertEqual(moved_order(WEB, ABC, [("turn",)] * 3), ABC)
        self.assertEqual(moved_order(WEB, BAC, [("swap", 1)]), ("b", "c", "a"))

    def test_no_moves(self):
        for web in own.WEBS.values():
            for order in own.orders_of(web)[::7]:
                self.assertEqual(moved_order(web, order, []), order)

    def test_chance_moves(self):
        chance = random.Random(9)
        for web in list(own.WEBS.values()) + list(own.EIGHT_WEBS):
            for order in own.some_orders(web, 5):
                moves, expected = [], order
                for _ in range(30):
                    index = chance.randrange(-1, len(order))
                    swapped = own.exchanged(web, expected, index)
                    moves.append(("turn",) if swapped is None else ("swap", index))
                    expected = expected[1:] + expected[:1] if swapped is None else swapped
                self.assertEqual(moved_order(web, order, moves), expected)
                self.assertIs(moves_hold(web, order, expected, moves), True)

    def test_each_index(self):
        for web in own.SMALL_WEBS.values():
            for order in own.orders_of(web):
                for index in range(-6, 7):
                    expected = own.exchanged(web, order, index)
                    if expected is None:
                        with self.assertRaises(BadMoves):
                            moved_order(web, order, [("swap", index)])
                    else:
                        self.assertEqual(moved_order(web, order, [("swap", index)]), expected)

    # moves of the order a, c, d, b in a web in which b alone has roads
    STAR, ORDER = (("a", "b", "c", "d"), (("a", "b"), ("b", "c"), ("d", "b"))), ("a", "c", "d", "b")

    def wrong_moves(self):
        wrong = never_right() + [
            ("swap", 2), ("swap", 3), ("swap", 4), ("swap", -1), ("swap", -2), ("swap", 10 ** 59), ("swap", True),
            ("swap", False), ("swap", None), ("swap", "0"), ("swap", (0,)), ("swap", [0]), ("swap",), ("swap", 0, 0),
            ("turn", 0), ("turn", None), ("turn", "a"), ["turn"], ["swap", 0], "turn", "swap", ("Turn",), ("SWAP", 0),
            (), ("turns",), ("swaps", 0), (0, "swap"), (("turn",),), {"turn"}, {"turn": 0}, b"turn", (b"turn",),
            ("back",), (None,), (Hostile(),), (LikeAll(),), (LikeAll(), 0), ("swap", LikeAll()), ("swap", Hostile()),
        ]
        return wrong

    def test_wrong_moves_at_any_spot(self):
        right = [("swap", 0), ("swap", 0), ("turn",), ("turn",), ("turn",), ("turn",)]
        self.assertEqual(moved_order(self.STAR, self.ORDER, right), self.ORDER)
        for move in self.wrong_moves():
            for moves in ([move], right + [move], [move] + right, right[:2] + [move] + right[2:], [move, move]):
                with self.assertRaises(BadMoves):
                    moved_order(self.STAR, self.ORDER, moves)
                self.assertIs(moves_hold(self.STAR, self.ORDER, self.ORDER, moves), False)

    def test_what_is_no_list(self):
        wrong = [(), (("turn",),), (("swap", 0),), {0: ("turn",)}, "turn", ("turn",), {("turn",)}, iter([("turn",)])]
        for moves in wrong + [thing for thing in never_right() if not isinstance(thing, list)]:
            with self.assertRaises(BadMoves):
                moved_order(self.STAR, self.ORDER, moves)
            self.assertIs(moves_hold(self.STAR, self.ORDER, self.ORDER, moves), False)

    def test_one_place(self):
        web = (("a",), ())
        self.assertEqual(moved_order(web, ("a",), [("turn",)] * 3), ("a",))
        for index in (0, -1, 1):
            with self.assertRaises(BadMoves):
                moved_order(web, ("a",), [("swap", index)])


class MovesToTest(unittest.TestCase):
    def check(self, web, order, other, reached):
        found = moves_to(web, order, other)
        ring = ring_between(web, order, other)
        if reached:
            self.assertIs(type(found), list)
            self.assertEqual(own.carry_out(web, order, found)[0], other)
            self.assertIs(moves_hold(web, order, other, found), True)
            self.assertIsNone(ring)
        else:
            self.assertIsNone(found)
            self.assertIs(type(ring), tuple)
            self.assertEqual(len(set(ring)), len(ring))
            self.assertTrue(len(ring) >= 3 and all(own.joined(web, ring[at - 1], ring[at]) for at in range(len(ring))))
            self.assertNotEqual(own.forward_of(order, ring), own.forward_of(other, ring))
        self.assertIs(ring_between_holds(web, order, other, ring), not reached)
        self.assertIs(moves_hold(web, order, other, None), False)

    def test_all_pairs_of_orders(self):
        for web in own.SMALL_WEBS.values():
            firsts = sorts_of_class(web)
            for order in own.orders_of(web):
                for other in own.orders_of(web):
                    self.check(web, order, other, firsts[order] == firsts[other])

    def test_five_places(self):
        for name, web in own.FIVE_WEBS.items():
            firsts = sorts_of_class(web)
            for order in own.orders_of(web)[::1 if name == "two rings that share a place" else 7]:
                for other in own.orders_of(web):
                    self.check(web, order, other, firsts[order] == firsts[other])

    def test_the_same_order(self):
        for web in own.WEBS.values():
            for order in own.orders_of(web)[::9]:
                self.assertIs(moves_hold(web, order, order, moves_to(web, order, order)), True)
                self.assertIs(moves_hold(web, order, order, []), True)

    def test_eight_places(self):
        for web in (own.EIGHT_WITHOUT, (EIGHT, tuple(zip(EIGHT, EIGHT[1:])))):
            for order, other in zip(own.some_orders(web, 40), own.some_orders(web, 40, seed=8)):
                self.check(web, order, other, True)
        for web in (own.EIGHT_WITH_FEW, own.EIGHT_WITH_FOURTEEN):
            for order in own.some_orders(web, 3):
                reached = own.class_of(web, order)
                for other in sorted(reached)[::max(1, len(reached) // 40)] + own.some_orders(web, 40, seed=5):
                    self.check(web, order, other, other in reached)

    def test_a_move_that_leads_elsewhere(self):
        self.assertIs(moves_hold(WEB, ABC, BAC, [("turn",)]), False)
        self.assertIs(moves_hold(WEB, ABC, BAC, []), False)
        self.assertIs(moves_hold(WEB, ABC, BAC, [("turn",), ("swap", 1)]), True)
        self.assertIs(moves_hold(WEB, ABC, BAC, [("turn",)] * 31 + [("swap", 1)]), True)
        self.assertIs(moves_hold(WEB, ABC, BAC, (("turn",), ("swap", 1))), False)
        self.assertIs(moves_hold(WEB, ABC, BAC, [("swap", 0)]), False)

    def test_any_object(self):
        paper = [("turn",), ("swap", 1)]
        for thing in never_right():
            self.assertIs(moves_hold(WEB, ABC, BAC, thing), False)
            self.assertIs(moves_hold(WEB, ABC, BAC, paper + [thing]), False)
        for changed in list(as_lists(tuple(paper))) + list(put_in(tuple(paper), 1)):
            if isinstance(changed, tuple):
                self.assertIs(moves_hold(WEB, ABC, BAC, list(changed)), False)


def told_rings(web):
    """The rings that point 17 tells, found by trying all ways along the roads that are laid down."""
    kept, found = [], []
    for one, other in web[1]:
        laid = (web[0], tuple(kept))
        ways = [
            (one,) + between + (other,) for many in range(len(web[0]) - 1)
            for between in itertools.permutations([place for place in web[0] if place not in (one, other)], many)
            if all(own.joined(laid, *pair) for pair in zip((one,) + between, between + (other,)))
        ]
        if not ways:
            kept.append((one, other))
            continue
        assert len(ways) == 1
        numbers = [web[0].index(place) for place in ways[0]]
        told = [numbers[at:] + numbers[:at] for at in range(len(numbers))]
        told += [turned[::-1] for turned in told]
        # of all ways of telling it the one from the least place on, and then to the lesser neighbour
        found.append(tuple(web[0][number] for number in min(told)))
    return found


class RingCountsTest(unittest.TestCase):
    def shuffled(self):
        chance = random.Random(21)
        for web in list(own.WEBS.values()) + list(own.EIGHT_WEBS):
            for _ in range(4):
                places = tuple(chance.sample(web[0], len(web[0])))
                roads = tuple(road[::chance.choice((1, -1))] for road in chance.sample(web[1], len(web[1])))
                yield (places, roads)

    def test_as_they_are_told(self):
        for web in self.shuffled():
            expected = told_rings(web)
            for order in own.some_orders(web, 3):
                found = ring_counts(web, order)
                self.assertEqual(found, [(ring, own.forward_of(order, ring)) for ring in expected])
                self.assertIs(type(found), list)
                for pair in found:
                    self.assertEqual([type(part) for part in (pair, pair[0], pair[1])], [tuple, tuple, int])

    def test_by_hand(self):
        self.assertEqual(ring_counts(own.R, ("a", "b", "c", "d")), [(("a", "b", "c", "d"), 3)])
        web = (("z", "a", "m", "k"), (("a", "k"), ("m", "k"), ("a", "m"), ("z", "k"), ("m", "z")))
        self.assertEqual(
            ring_counts(web, ("k", "z", "m", "a")), [(("a", "m", "k"), 1), (("z", "m", "k"), 2)],
        )

    def test_the_same_exactly_in_one_class(self):
        for web in own.WEBS.values():
            firsts = sorts_of_class(web)
            by_counts = {}
            for order in own.orders_of(web):
                by_counts.setdefault(tuple(ring_counts(web, order)), set()).add(firsts[order])
            self.assertEqual([len(found) for found in by_counts.values()], [1] * len(set(firsts.values())))

    def test_forests_have_none(self):
        for web in (WEB, own.EIGHT_WITHOUT, own.SMALL_WEBS["a star"], own.SMALL_WEBS["one place"]):
            for order in own.some_orders(web, 3):
                self.assertEqual(ring_counts(web, order), [])

    def test_as_many_as_roads_beyond_a_forest(self):
        self.assertEqual(len(ring_counts(own.EIGHT_WITH_FOURTEEN, EIGHT)), 14 - 7)


class RingBetweenHoldsTest(unittest.TestCase):
    def test_against_all_rings(self):
        for name in ("two rings that share a road", "ring of three", "each two of four", "R"):
            web = own.SMALL_WEBS[name]
            for order in own.orders_of(web)[::3]:
                for other in own.orders_of(web)[::2]:
                    for ring in rings_of(web):
                        expected = own.forward_of(order, ring) != own.forward_of(other, ring)
                        self.assertIs(ring_between_holds(web, order, other, ring), expected)

    def test_what_is_no_ring(self):
        for thing in (("a", "b"), ("a", "b", "d"), ["a", "b", "c", "d"], ("a", "b", "c", "d", "a"), (), "abcd", None):
            self.assertIs(ring_between_holds(own.R, ("a", "b", "c", "d"), ("d", "c", "b", "a"), thing), False)
        ring = ("a", "b", "c", "d")
        self.assertIs(ring_between_holds(own.R, ("a", "b", "c", "d"), ("d", "c", "b", "a"), ring), True)
        self.assertIs(ring_between_holds(own.R, ("a", "b", "c", "d"), ("d", "a", "b", "c"), ring), False)


if __name__ == "__main__":
    unittest.main()
