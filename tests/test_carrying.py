"""Days carried over from one order to another."""

import random
import unittest

from eachinturn.carrying import (
    back_moves, carried, carried_ring, length_table, match_shift, ring_match, same_lengths,
)
from eachinturn.days import after
from eachinturn.errors import BadDays, BadHall, BadMoves, BadOrder, BadPieces, BadState, TooMany
from eachinturn.halls import pieces, states_of
from eachinturn.rings import ring_lengths, rings
from eachinturn.turning import classes, moved_order, moves_to
from tests import own
from tests.helpers import EIGHT, EVERY_SORT, H, THREE_STATES, WEB, as_lists, never_right, replaced
from tests.test_days import COUNTER, DIGITS

ABC = ("a", "b", "c")


def some_moves(web, order, many, chance):
    """Moves that can be made from this order on, turns and swaps mixed."""
    moves = []
    for _ in range(many):
        index = chance.randrange(-1, len(order))
        swapped = own.exchanged(web, order, index)
        moves.append(("turn",) if swapped is None else ("swap", index))
        order = order[1:] + order[:1] if swapped is None else swapped
    return moves


def cases(many=1):
    """Halls with an order and moves of each."""
    chance = random.Random(31)
    for hall in list(own.small_halls(many)) + [H, THREE_STATES]:
        for order in own.some_orders(hall[1], 2):
            for length in (0, 1, 7):
                yield hall, order, some_moves(hall[1], order, length, chance)


class CarriedTest(unittest.TestCase):
    def test_each_turn_is_a_step(self):
        for hall, order, moves in cases():
            _, turned = own.carry_out(hall[1], order, moves)
            for state in states_of(hall)[::3]:
                found = carried(hall, order, moves, state)
                self.assertEqual(found, own.day_of(hall, turned, state))
                self.assertIs(type(found), tuple)

    def test_days_are_carried_to_days(self):
        for hall, order, moves in cases(many=2):
            behind, turned = own.carry_out(hall[1], order, moves)
            days, moved_days = own.table_of_days(hall, order), own.table_of_days(hall, behind)
            for state in states_of(hall):
                there = own.day_of(hall, turned, state)
                self.assertEqual(own.day_of(hall, turned, days[state]), moved_days[there])
            for state in states_of(hall)[::5]:
                self.assertEqual(carried(hall, order, moves, days[state]), moved_days[carried(hall, order, moves, state)])

    def test_by_hand(self):
        self.assertEqual(carried(H, ABC, [("turn",)], (1, 0, 0)), (0, 0, 0))
        self.assertEqual(carried(H, ("b", "a", "c"), [("turn",)], (1, 0, 0)), (1, 1, 0))
        self.assertEqual(carried(H, ("b", "a", "c"), [("turn",), ("swap", 0), ("turn",)], (1, 0, 0)), (1, 1, 1))
        self.assertEqual(carried(H, ("b", "a", "c"), [("swap", 1)], (1, 0, 0)), (1, 0, 0))
        self.assertEqual(carried(H, ABC, [], (1, 0, 1)), (1, 0, 1))

    def test_as_many_turns_as_places_are_a_day(self):
        for hall, order, _ in cases():
            for state in states_of(hall)[::7]:
                self.assertEqual(carried(hall, order, [("turn",)] * len(order), state), own.day_of(hall, order, state))

    def test_wrong_moves_come_ahead_of_wrong_states(self):
        for state in ((1, 0, 0), (1, 0), None):
            with self.assertRaises(BadMoves):
                carried(H, ABC, [("swap", 0)], state)
        with self.assertRaises(BadState):
            carried(H, ABC, [("turn",)], (1, 0))


class CarriedRingTest(unittest.TestCase):
    def test_rings_are_carried_to_rings(self):
        for hall, order, moves in cases(many=2):
            behind, turned = own.carry_out(hall[1], order, moves)
            moved_rings = own.rings_of(own.table_of_days(hall, behind))
            carried_rings = []
            for ring in own.rings_of(own.table_of_days(hall, order)):
                found = carried_ring(hall, order, moves, ring)
                self.assertIn(found, moved_rings)
                self.assertEqual(sorted(found), sorted(own.day_of(hall, turned, state) for state in ring))
                self.assertEqual([type(part) for part in (found, found[0])], [tuple, tuple])
                carried_rings.append(found)
            self.assertEqual(sorted(carried_rings), moved_rings)
            self.assertEqual(
                ring_match(hall, order, moves), list(zip(rings(hall, order), carried_rings)),
            )

    def test_ring_match_is_a_list_of_pairs(self):
        found = ring_match(H, ABC, [("turn",)])
        self.assertIs(type(found), list)
        self.assertEqual({type(pair) for pair in found}, {tuple})
        self.assertEqual([pair[0] for pair in found], sorted(rings(H, ABC)))

    def test_of_many_states(self):
        for hall in (own.BIG_TWO, own.BIG_THREE):
            order, other = own.some_orders(hall[1], 2)
            moves = some_moves(hall[1], order, 20, random.Random(2))
            behind = moved_order(hall[1], order, moves)
            match = ring_match(hall, order, moves)
            self.assertEqual([ring for ring, _ in match], rings(hall, order))
            self.assertEqual(sorted(ring for _, ring in match), rings(hall, behind))

    ORDER = DIGITS[::-1]
    RING = rings(COUNTER, ORDER)[0]

    def test_what_is_no_ring_of_days(self):
        ring = self.RING
        self.assertEqual(len(carried_ring(COUNTER, self.ORDER, [("turn",)], ring)), 32)
        wrong = [
            ring[1:] + ring[:1], ring[::-1], list(ring), ring[:-1], ring + ring[:1], ring * 2, (), ring[:1], ring[0],
            (ring,), tuple(list(state) for state in ring), ring[:3] + ring[4:], ring + (None,), ring[:-1] + (None,),
            ((True,) + ring[0][1:],) + ring[1:], ring[:-1] + (tuple(bool(part) for part in ring[-1]),),
            ((False,) * 5,) + ring[1:],
        ]
        for thing in wrong + never_right():
            with self.assertRaises(BadDays):
                carried_ring(COUNTER, self.ORDER, [("turn",)], thing)

    def test_parts_that_are_something_else(self):
        hall = (2, WEB, (("odd",), ("odd",), ("keep",)))
        ring = max(rings(hall, ABC), key=len)
        self.assertGreater(len(ring), 1)
        for instead in never_right() + [2, (0, 0, 2), (0, 0)]:
            for thing in replaced(ring, instead):
                with self.assertRaises(BadDays):
                    carried_ring(hall, ABC, [], thing)
        for thing in as_lists(ring):
            with self.assertRaises(BadDays):
                carried_ring(hall, ABC, [], thing)

    def test_rings_of_other_orders(self):
        some = 0
        for hall in own.small_halls():
            orders = own.some_orders(hall[1], 4)
            for order, other in zip(orders, orders[1:]):
                right = rings(hall, order)
                for ring in rings(hall, other):
                    if ring not in right:
                        some += 1
                        with self.assertRaises(BadDays):
                            carried_ring(hall, order, [], ring)
        self.assertGreater(some, 10)

    def test_wrong_moves_come_ahead_of_wrong_rings(self):
        with self.assertRaises(BadMoves):
            carried_ring(H, ABC, (("turn",),), None)


class BackMovesTest(unittest.TestCase):
    def test_as_they_are_told(self):
        self.assertEqual(back_moves(WEB, ABC, [("turn",), ("swap", 1)]), [("swap", 1), ("turn",), ("turn",)])
        self.assertEqual(
            back_moves(WEB, ("b", "a", "c"), [("swap", 1), ("turn",), ("swap", 0)]),
            [("swap", 0), ("turn",), ("turn",), ("swap", 1)],
        )
        self.assertEqual(back_moves(WEB, ABC, []), [])
        self.assertEqual(back_moves((("q",), ()), ("q",), [("turn",), ("turn",)]), [])

    def test_they_lead_back(self):
        chance = random.Random(4)
        for web in list(own.WEBS.values()) + list(own.EIGHT_WEBS):
            for order in own.some_orders(web, 4):
                moves = some_moves(web, order, 12, chance)
                back = back_moves(web, order, moves)
                expected = []
                for move in moves[::-1]:
                    expected += [("turn",)] * (len(order) - 1) if move == ("turn",) else [move]
                self.assertEqual(back, expected)
                self.assertIs(type(back), list)
                self.assertEqual({type(move) for move in back} | {tuple}, {tuple})
                self.assertEqual(own.carry_out(web, own.carry_out(web, order, moves)[0], back)[0], order)

    def test_there_and_back_is_as_many_days_as_turns(self):
        for hall, order, moves in cases():
            behind = moved_order(hall[1], order, moves)
            back = back_moves(hall[1], order, moves)
            turns = moves.count(("turn",))
            for state in states_of(hall)[::5]:
                there = carried(hall, order, moves, state)
                self.assertEqual(carried(hall, behind, back, there), after(hall, order, state, turns))

    def test_what_was_handed_in_is_not_kept(self):
        moves = [("turn",), ("swap", 1)]
        back = back_moves(WEB, ABC, moves)
        moves.clear()
        self.assertEqual(back, [("swap", 1), ("turn",), ("turn",)])

    def test_wrong_moves(self):
        for moves in ([("swap", 0)], (("turn",),), [("turn", 0)], None):
            with self.assertRaises(BadMoves):
                back_moves(WEB, ABC, moves)


class MatchShiftTest(unittest.TestCase):
    def test_against_days_counted(self):
        found = set()
        chance = random.Random(8)
        for hall in own.small_halls():
            if len(pieces(hall[1])) > 1:
                continue
            for order in own.some_orders(hall[1], 2):
                for rounds in (0, 1, 4):
                    moves = some_moves(hall[1], order, 5 * rounds, chance)
                    moves += moves_to(hall[1], moved_order(hall[1], order, moves), order)
                    moves += [("turn",)] * (rounds * len(order))
                    for ring in rings(hall, order):
                        for state in ring[:3]:
                            shift = match_shift(hall, order, moves, state)
                            self.assertIs(type(shift), int)
                            self.assertIn(shift, range(len(ring)))
                            there = carried(hall, order, moves, state)
                            self.assertEqual(ring[(ring.index(state) + shift) % len(ring)], there)
                            found.add(shift)
        self.assertGreaterEqual(found, {0, 1, 2, 3})

    def test_rings_of_one_state(self):
        self.assertEqual(match_shift(H, ABC, [("turn",)] * 3, (0, 0, 0)), 0)
        self.assertEqual(match_shift(H, ABC, [("turn",)] * 30, (0, 0, 0)), 0)

    def test_a_long_ring(self):
        order, state = DIGITS[::-1], (1, 1, 0, 1, 0)
        for days in (0, 1, 2, 31, 32, 33, 70):
            self.assertEqual(match_shift(COUNTER, order, [("turn",)] * (5 * days), state), days % 32)

    def test_several_pieces(self):
        hall = (2, (("a", "b"), ()), (("keep",), ("keep",)))
        for order, moves, state in ((("a", "b"), [], (0, 0)), (None, None, None), (("a", "b"), [("turn",)], None)):
            with self.assertRaises(BadPieces):
                match_shift(hall, order, moves, state)
        with self.assertRaises(BadHall):
            match_shift(hall[:2], None, None, None)

    def test_moves_that_do_not_lead_back(self):
        for moves in ([("turn",)], [("turn",)] * 2, [("turn",)] * 4, [("turn",), ("swap", 1)], [("swap", 0)], None):
            for state in ((0, 0, 0), (0, 0), None):
                with self.assertRaises(BadMoves):
                    match_shift(H, ABC, moves, state)
        with self.assertRaises(BadMoves):
            match_shift(H, ("b", "a", "c"), [("swap", 1)], (0, 0, 0))
        # these would lead back, but there are roads between the places
        for moves in ([("swap", 0), ("swap", 0)], [("swap", 1), ("swap", 1)], [("turn",)] * 3 + [("swap", 0)] * 2):
            with self.assertRaises(BadMoves):
                match_shift(H, ABC, moves, (0, 0, 0))
        self.assertEqual(match_shift(H, ("b", "a", "c"), [("swap", 1), ("swap", 1)], (0, 0, 0)), 0)
        with self.assertRaises(BadOrder):
            match_shift(H, ("b", "a"), None, None)

    def test_states_on_no_ring(self):
        on = {state for ring in rings(H, ABC) for state in ring}
        self.assertNotEqual(on, set(states_of(H)))
        for state in states_of(H):
            if state not in on:
                with self.assertRaises(BadState):
                    match_shift(H, ABC, [], state)
        for state in ((0, 0), None, (0, 0, False)):
            with self.assertRaises(BadState):
                match_shift(H, ABC, [], state)


class LengthsTest(unittest.TestCase):
    def test_same_lengths(self):
        found = set()
        for hall in own.small_halls():
            orders = own.some_orders(hall[1], 5)
            for order, other in zip(orders, orders[1:]):
                expected = [
                    sorted(len(ring) for ring in own.rings_of(own.table_of_days(hall, one))) for one in (order, other)
                ]
                self.assertIs(same_lengths(hall, order, other), expected[0] == expected[1])
                found.add(expected[0] == expected[1])
        self.assertEqual(found, {True, False})

    def test_orders_of_one_class(self):
        for seed, web in enumerate(own.WEBS.values()):
            hall = own.some_hall(web, 2, seed)
            for first, orders in own.classes_of(web).items():
                for order in sorted(orders)[::13]:
                    self.assertIs(same_lengths(hall, first, order), True)

    def test_length_table(self):
        for hall in list(own.small_halls(many=1)) + [H, own.some_hall(own.FIVE_WEBS["a house"], 2, 1)]:
            found = length_table(hall)
            expected = [(order, ring_lengths(hall, order)) for _, order in classes(hall[1])]
            self.assertEqual(found, expected)
            self.assertIs(type(found), list)
            self.assertEqual([[type(part) for part in row] for row in found], [[tuple, list]] * len(found))

    def test_in_the_sequence_of_classes(self):
        hall = own.some_hall(own.R, 2, 3)
        self.assertEqual([order for order, _ in length_table(hall)], [order for _, order in classes(own.R)])
        self.assertEqual(len(length_table(hall)), 3)

    def test_too_many_exactly_above_five_hundred_arrows(self):
        few = own.some_hall(own.JUST_FEW, 2, 5)
        self.assertEqual([order for order, _ in length_table(few)], [order for _, order in classes(own.JUST_FEW)])
        for web in (own.JUST_MANY, own.EIGHT_WITH_FOURTEEN):
            hall = own.some_hall(web, 2, 5)
            with self.assertRaises(TooMany):
                length_table(hall)
            self.assertIs(same_lengths(hall, web[0], web[0][1:] + web[0][:1]), True)
            with self.assertRaises(BadHall):
                length_table((2, web, None))

    def test_no_list_stands_in_two_places(self):
        hall = (2, own.R, (("keep",),) * 4)
        found = length_table(hall)
        self.assertEqual(len({id(lengths) for _, lengths in found}), 3)
        for _, lengths in found:
            lengths.clear()
        self.assertEqual([lengths for _, lengths in length_table(hall)], [[(1, 16)]] * 3)

    def test_every_sort(self):
        self.assertEqual(len(length_table(EVERY_SORT)), 1)
        self.assertEqual(
            length_table(EVERY_SORT), [(EVERY_SORT[1][0], ring_lengths(EVERY_SORT, EVERY_SORT[1][0]))],
        )

    def test_of_many_states(self):
        hall = own.some_hall(own.EIGHT_WITH_FEW, 2, 6)
        for order, other in zip(own.some_orders(hall[1], 4), own.some_orders(hall[1], 4, seed=6)):
            expected = ring_lengths(hall, order) == ring_lengths(hall, other)
            self.assertIs(same_lengths(hall, order, other), expected)
        self.assertIs(same_lengths(hall, EIGHT, EIGHT[3:] + EIGHT[:3]), True)


if __name__ == "__main__":
    unittest.main()
