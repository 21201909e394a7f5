"""Halls beside one another, and the parts of halls."""

import itertools
import unittest

from eachinturn.beside import beside, beside_lengths, part_of, split_lengths, woven_order
from eachinturn.days import day
from eachinturn.errors import BadHall, BadJoin, BadLengths, BadOrder, BadPart, BadTurns
from eachinturn.halls import is_hall, pieces, states_of
from eachinturn.rings import ring_lengths
from tests import own
from tests.helpers import EIGHT, EVERY_SORT, H, PAIRS, THREE_STATES, WEB, Hostile, as_lists, never_right

ABC = ("a", "b", "c")
# Two roads from two places, named and numbered in sequences of their own
OTHER = (2, (("y", "x"), (("x", "y"),)), (("copy", "x"), ("table", (1, 0, 0, 1))))
LONE = (2, (("q",), ()), (("most", 1),))
THREE_OTHER = (3,) + OTHER[1:2] + ((("copy", "x"), ("greatest",)),)


def kept(k, places, roads=()):
    return (k, (tuple(places), tuple(roads)), (("keep",),) * len(places))


def renamed(hall):
    """The same hall with other names."""
    k, (places, roads), rules = hall
    new = {place: "n" + place for place in places}
    return (
        k, (tuple(new[place] for place in places), tuple((new[one], new[two]) for one, two in roads)),
        tuple(("copy", new[rule[1]]) if rule[0] == "copy" else rule for rule in rules),
    )


def pairs_of_halls():
    """Small halls that can stand beside one another."""
    for rule, k in itertools.product((own.some_rule, own.some_undoable_rule), (2, 3)):
        halls = [hall for hall in own.small_halls(many=1, rule=rule) if hall[0] == k]
        for at, hall in enumerate(halls):
            for other in (halls[at - 1], halls[at - 4]):
                if k ** (len(hall[2]) + len(other[2])) <= 128:
                    yield hall, renamed(other)


def some_turns(many, more, every):
    """Tuples with so many 0 and so many 1."""
    everything = sorted(set(itertools.permutations((0,) * many + (1,) * more)))
    return everything[::every] + everything[-1:]


class BesideTest(unittest.TestCase):
    def test_by_hand(self):
        self.assertEqual(beside(H, OTHER), (
            2, (("a", "b", "c", "y", "x"), (("a", "b"), ("b", "c"), ("x", "y"))),
            (("copy", "b"), ("odd",), ("copy", "b"), ("copy", "x"), ("table", (1, 0, 0, 1))),
        ))
        self.assertEqual(beside(OTHER, H)[1], (("y", "x", "a", "b", "c"), (("x", "y"), ("a", "b"), ("b", "c"))))
        self.assertEqual(beside(beside(H, OTHER), LONE), beside(H, beside(OTHER, LONE)))

    def test_it_is_a_hall(self):
        some = 0
        for hall, other in pairs_of_halls():
            some += 1
            self.assertTrue(is_hall(beside(hall, other)))
            self.assertTrue(is_hall(beside(other, hall)))
        self.assertGreater(some, 20)

    def test_another_k(self):
        for hall, other in ((H, THREE_OTHER), (THREE_OTHER, H), (kept(2, "a"), kept(3, "b"))):
            with self.assertRaises(BadJoin):
                beside(hall, other)

    def test_a_name_in_both(self):
        for hall, other in ((H, H), (H, kept(2, "xb")), (kept(2, "c"), H), (kept(3, "a"), kept(3, "ba"))):
            with self.assertRaises(BadJoin):
                beside(hall, other)

    def test_too_many_places(self):
        self.assertTrue(is_hall(beside(kept(2, "abcd"), kept(2, "efgh"))))
        self.assertTrue(is_hall(beside(kept(2, "abcdefg"), kept(2, "h"))))
        for hall, other in ((kept(2, "abcd"), kept(2, "efghi")), (kept(2, EIGHT), kept(2, "z"))):
            with self.assertRaises(BadJoin):
                beside(hall, other)
            with self.assertRaises(BadJoin):
                beside(other, hall)

    def test_too_many_states(self):
        self.assertTrue(is_hall(beside(kept(3, "abc"), kept(3, "de"))))
        for hall, other in ((kept(3, "abc"), kept(3, "def")), (kept(3, "abcde"), kept(3, "f"))):
            with self.assertRaises(BadJoin):
                beside(hall, other)

    def test_too_many_roads(self):
        ten = [pair for pair in PAIRS if set(pair) <= set("abcde")]
        three = [("x", "y"), ("y", "z"), ("z", "x")]
        self.assertEqual(len(ten), 10)
        self.assertTrue(is_hall(beside(kept(2, "abcde", ten), kept(2, "xyz", three))))
        fourteen = [pair for pair in PAIRS if set(pair) <= set("abcdef")][:14]
        self.assertTrue(is_hall(beside(kept(2, "abcdef", fourteen), kept(2, "xy"))))
        with self.assertRaises(BadJoin):
            beside(kept(2, "abcdef", fourteen), kept(2, "xy", [("x", "y")]))
        with self.assertRaises(BadJoin):
            beside(kept(2, "xy", [("x", "y")]), kept(2, "abcdef", fourteen))

    def test_either_hall_comes_first(self):
        for wrong in (None, WEB, H[:2], list(H), Hostile()):
            for other in (H, THREE_OTHER, None):
                with self.assertRaises(BadHall):
                    beside(wrong, other)
            with self.assertRaises(BadHall):
                beside(H, wrong)


class WovenOrderTest(unittest.TestCase):
    def test_by_hand(self):
        order, second = ("c", "a", "b"), ("x", "y")
        for turns, expected in (
            ((0, 0, 0, 1, 1), "cabxy"), ((1, 1, 0, 0, 0), "xycab"), ((0, 1, 0, 1, 0), "cxayb"), ((1, 0, 0, 0, 1), "xcaby"),
        ):
            self.assertEqual(woven_order(H, OTHER, order, second, turns), tuple(expected))

    def test_the_day_of_both_is_the_days_of_each(self):
        some = 0
        for hall, other in pairs_of_halls():
            both, many = beside(hall, other), len(hall[2])
            order, second = own.some_orders(hall[1], 1)[0], own.some_orders(other[1], 1)[0]
            for turns in some_turns(many, len(other[2]), 3):
                woven = woven_order(hall, other, order, second, turns)
                self.assertIs(type(woven), tuple)
                self.assertEqual(tuple(place for place in woven if place in hall[1][0]), order)
                self.assertEqual(tuple(place for place in woven if place in other[1][0]), second)
                self.assertEqual(tuple(0 if place in hall[1][0] else 1 for place in woven), turns)
                some += 1
                for state in states_of(both)[::17]:
                    expected = own.day_of(hall, order, state[:many]) + own.day_of(other, second, state[many:])
                    self.assertEqual(day(both, woven, state), expected)
        self.assertGreater(some, 100)

    def test_all_turns(self):
        woven = {woven_order(H, OTHER, ABC, ("x", "y"), turns) for turns in some_turns(3, 2, 1)}
        self.assertEqual(len(woven), 10)

    def test_what_are_no_turns(self):
        near = [
            (0, 0, 0, 1), (0, 0, 0, 1, 1, 1), (0, 0, 0, 0, 1), (0, 0, 1, 1, 1), (0, 0, 0, 1, 2), (0, 0, 0, 1, -1),
            (0, 0, 0, 1, True), (False, 0, 0, 1, 1), (0, 0, 0, 1, None), (0, 0, 0, True, True), [0, 0, 0, 1, 1], "00011",
            ("0", "0", "0", "1", "1"), (), (1,) * 5, (0,) * 5, ((0, 0, 0), (1, 1)), (0, 0, 0, 1, [1]), {0: 0, 1: 1},
            (0, 0, 0, 0, 1, 1), (0, 0, 0, 0, 1, 1, 1),
        ]
        for turns in near + never_right() + list(as_lists((0, 0, 0, 1, 1))):
            with self.assertRaises(BadTurns):
                woven_order(H, OTHER, ABC, ("x", "y"), turns)

    def test_the_errors_in_the_order_of_the_parameters(self):
        right = {"hall": H, "other": OTHER, "order": ABC, "second": ("x", "y"), "turns": (0, 0, 0, 1, 1)}
        wrongs = [
            ("hall", [None, H[:2], Hostile()], BadHall),
            ("other", [None, OTHER[:2], Hostile()], BadHall),
            ("other", [H, THREE_OTHER, kept(2, "xa"), kept(2, "uvwxyz")], BadJoin),
            ("order", [None, ("x", "y"), ("a", "b"), ["a", "b", "c"], ABC + ("x", "y"), Hostile()], BadOrder),
            ("second", [None, ABC, ("x", "x"), ["x", "y"], ("x", "y", "a"), Hostile()], BadOrder),
            ("turns", [None, (0, 1), Hostile()], BadTurns),
        ]
        for at, (name, things, error) in enumerate(wrongs):
            for number, thing in enumerate(things):
                for more in (wrongs[at + 1:], wrongs[at + 1:at + 2], []):
                    later = {other: wrong[number % len(wrong)] for other, wrong, _ in more if other != name}
                    with self.assertRaises(error):
                        woven_order(**{**right, **later, name: thing})


class BesideLengthsTest(unittest.TestCase):
    def test_by_hand(self):
        # a ring of 4 days and one of 6 make two of 12
        self.assertEqual(beside_lengths([(4, 1)], [(6, 1)]), [(12, 2)])
        self.assertEqual(beside_lengths([(1, 2), (3, 1)], [(1, 1), (2, 5)]), [(1, 2), (2, 10), (3, 1), (6, 5)])
        self.assertEqual(beside_lengths([(2, 1), (4, 1)], [(4, 3)]), [(4, 18)])
        self.assertEqual(beside_lengths([(2, 1), (6, 1)], [(3, 1), (4, 1)]), [(4, 2), (6, 4), (12, 2)])

    def test_no_rings(self):
        self.assertEqual(beside_lengths([], []), [])
        self.assertEqual(beside_lengths([(3, 2)], []), [])
        self.assertEqual(beside_lengths([], [(1, 1), (3, 2)]), [])

    def test_against_the_hall_of_both(self):
        found = set()
        for hall, other in pairs_of_halls():
            both = beside(hall, other)
            for order in own.some_orders(hall[1], 2):
                for second in own.some_orders(other[1], 2):
                    told = beside_lengths(ring_lengths(hall, order), ring_lengths(other, second))
                    for turns in some_turns(len(order), len(second), 40):
                        self.assertEqual(ring_lengths(both, woven_order(hall, other, order, second, turns)), told)
                    found |= {length for length, _ in told}
        self.assertGreaterEqual(found, {1, 2, 3, 6})

    def test_of_halls_that_can_be_undone(self):
        for seed in range(6):
            for k, webs in ((2, ("a way", "ring of four")), (3, ("one road", "two and one"))):
                hall = own.some_hall(own.SMALL_WEBS[webs[0]], k, seed, own.some_undoable_rule)
                other = renamed(own.some_hall(own.SMALL_WEBS[webs[1]], k, seed, own.some_undoable_rule))
                order, second = hall[1][0], other[1][0]
                woven = woven_order(hall, other, order, second, (0,) * len(order) + (1,) * len(second))
                self.assertEqual(
                    beside_lengths(ring_lengths(hall, order), ring_lengths(other, second)),
                    ring_lengths(beside(hall, other), woven),
                )

    def test_great_numbers(self):
        one, two = 10 ** 29, 10 ** 29 + 1
        self.assertEqual(beside_lengths([(one, two)], [(two, one)]), [(one * two, one * two)])
        self.assertEqual(beside_lengths([(one, 1)], [(one, 1)]), [(one, one)])

    def test_what_is_no_such_list(self):
        near = [
            [(2, 1), (1, 1)], [(2, 1), (2, 1)], [(2, 1), (2, 3)], [(0, 1)], [(1, 0)], [(-1, 1)], [(1, -1)], [(True, 1)],
            [(1, True)], [(False, 1)], [(1, 1, 1)], [(1,)], [1], [[1, 1]], ((1, 1),), (), [(1, 1), None], [(1, "1")],
            [("1", 1)], [(1, None)], [(1, 1), (3, 1), (2, 1)], [(1, 1), (2, 0)], {1: 1}, "", (1, 1), [(1, 1), ()], [()],
            [(Hostile(), 1)], [(1, Hostile())], [Hostile()], [(1, 1), (2, (1,))], [((1, 1), (2, 1))],
        ]
        for thing in near + [thing for thing in never_right() if not isinstance(thing, list)] + [["a"]]:
            with self.assertRaises(BadLengths):
                beside_lengths(thing, [(1, 1)])
            with self.assertRaises(BadLengths):
                beside_lengths([(1, 1)], thing)
            with self.assertRaises(BadLengths):
                beside_lengths([], thing)


# x with v and q, then b alone, then a with m: in no sequence of the texts or the roads
APART = (
    2, (("x", "a", "v", "b", "m", "q"), (("v", "x"), ("m", "a"), ("x", "q"), ("q", "v"))),
    (("copy", "q"), ("sum", ((0, 1), (1, 0))), ("table", (0, 1, 1, 0, 1, 1, 0, 0)), ("most", 0), ("copy", "a"), ("odd",)),
)


class PartTest(unittest.TestCase):
    def test_by_hand(self):
        self.assertEqual(part_of(APART, ("b",)), (2, (("b",), ()), (("most", 0),)))
        self.assertEqual(
            part_of(APART, ("a", "m")), (2, (("a", "m"), (("m", "a"),)), (("sum", ((0, 1), (1, 0))), ("copy", "a"))),
        )
        # as they stand in the hall, not as they were told
        self.assertEqual(part_of(APART, ("q", "v", "x")), (
            2, (("x", "v", "q"), (("v", "x"), ("x", "q"), ("q", "v"))),
            (("copy", "q"), ("table", (0, 1, 1, 0, 1, 1, 0, 0)), ("odd",)),
        ))
        self.assertEqual(
            part_of(APART, ("a", "b", "m")),
            (2, (("a", "b", "m"), (("m", "a"),)), (("sum", ((0, 1), (1, 0))), ("most", 0), ("copy", "a"))),
        )

    def test_all_places(self):
        for hall in [APART, EVERY_SORT, THREE_STATES, H] + list(own.small_halls(many=1)):
            self.assertEqual(part_of(hall, tuple(sorted(hall[1][0]))), hall)

    def test_the_days_of_a_part(self):
        for hall in [APART, EVERY_SORT, THREE_STATES]:
            together = pieces(hall[1])
            for many in range(1, len(together) + 1):
                for chosen in itertools.combinations(together, many):
                    places = tuple(sorted(sum(chosen, ())))
                    part = part_of(hall, places)
                    self.assertTrue(is_hall(part))
                    order = own.some_orders(hall[1], 1)[0]
                    among = tuple(place for place in order if place in places)
                    at = [hall[1][0].index(place) for place in part[1][0]]
                    self.assertEqual(at, sorted(at))
                    for state in states_of(hall)[::7]:
                        behind = own.day_of(hall, order, state)
                        self.assertEqual(
                            day(part, among, tuple(state[number] for number in at)), tuple(behind[number] for number in at),
                        )

    def test_a_hall_of_both_and_its_parts(self):
        for hall, other in pairs_of_halls():
            both = beside(hall, other)
            self.assertEqual(part_of(both, tuple(sorted(hall[1][0]))), hall)
            self.assertEqual(part_of(both, tuple(sorted(other[1][0]))), other)

    def test_what_is_no_part(self):
        near = [
            (), ("m", "a"), ("a", "a", "m"), ("b", "b"), ["b"], ["a", "m"], ("a",), ("a", "b"), ("q", "v"), ("x",),
            ("a", "m", "x"), "b", "am", ("b", "z"), ("b", None), (None,), ("B",), (b"b",), (3,), (1, 4), ("b", True),
            {"b": 1}, {"b"}, frozenset("b"), ("x", "v", "q"), ("a", "b", "m", "q"), ("", "b"), (("b",),), ("a", "m", "b"),
            ("b", Hostile()), (Hostile(), "b"),
        ]
        for places in near + never_right():
            with self.assertRaises(BadPart):
                part_of(APART, places)
        for places in (("b",), None, Hostile()):
            with self.assertRaises(BadHall):
                part_of(APART[:2], places)


class SplitLengthsTest(unittest.TestCase):
    def test_the_sequence_of_the_pieces(self):
        for hall in list(own.small_halls()) + [APART, EVERY_SORT, THREE_STATES]:
            order = own.some_orders(hall[1], 1)[0]
            found = split_lengths(hall, order)
            self.assertIs(type(found), list)
            self.assertEqual(len(found), len(pieces(hall[1])))
            for piece, told in zip(pieces(hall[1]), found):
                among = tuple(place for place in order if place in piece)
                self.assertEqual(told, ring_lengths(part_of(hall, piece), among))

    def test_the_whole(self):
        many = set()
        for hall in list(own.small_halls()) + [APART, EVERY_SORT, THREE_STATES]:
            for order in own.some_orders(hall[1], 3):
                whole = [(1, 1)]
                for told in split_lengths(hall, order):
                    whole = beside_lengths(whole, told)
                self.assertEqual(whole, ring_lengths(hall, order))
                many.add(len(split_lengths(hall, order)))
        self.assertGreaterEqual(many, {1, 2, 3, 4})

    def test_of_eight_places(self):
        for web in own.EIGHT_WEBS[:2]:
            for rule in (own.some_rule, own.some_undoable_rule):
                hall = own.some_hall(web, 2, 8, rule)
                order = own.some_orders(web, 1)[0]
                whole = split_lengths(hall, order)[0]
                for told in split_lengths(hall, order)[1:]:
                    whole = beside_lengths(whole, told)
                self.assertEqual(whole, ring_lengths(hall, order))

    def test_by_hand(self):
        # by texts a is ahead of z: a piece of rings of two days, then one of those that stay
        hall = (2, (("z", "a"), ()), (("keep",), ("table", (1, 0))))
        self.assertEqual(split_lengths(hall, ("z", "a")), [[(2, 1)], [(1, 2)]])

    def test_wrong_arguments(self):
        with self.assertRaises(BadHall):
            split_lengths(APART[:2], None)
        for order in (("a", "m"), list(APART[1][0]), None):
            with self.assertRaises(BadOrder):
                split_lengths(APART, order)


if __name__ == "__main__":
    unittest.main()
