"""What holds over the whole program: the main property, and how the modules fit together."""

import itertools
import math
import unittest

from eachinturn.adding import kernel, least_round, matrix_power
from eachinturn.alike import all_arrows, are_alike, arrows, order_for, parting
from eachinturn.beside import beside_lengths, split_lengths
from eachinturn.best import fewest_rings, longest_ring, order_score, quickest, slowest
from eachinturn.carrying import carried, length_table, ring_match, same_lengths
from eachinturn.days import ahead_of, day, day_table
from eachinturn.halls import is_forest, number_of, states_of, with_tables
from eachinturn.rings import ring_lengths, ring_of, rings
from eachinturn.rows import read_hall, write_hall
from eachinturn.samples import fits, fitting_arrows, like_days, unlike_state
from eachinturn.session import Session
from eachinturn.staying import days_to_rest, never_rest, rest_orders, rests, staying
from eachinturn.turning import classes, forward, moved_order, moves_to
from eachinturn.undoing import can_be_undone, day_before
from eachinturn.weights import rest_reached, weights_down
from tests import own
from tests.helpers import EVERY_SORT, H, THREE_STATES
from tests.test_turning import rings_of


def turned(order):
    return order[1:] + order[:1]


def halls():
    return list(own.small_halls(many=2)) + list(own.small_halls(many=1, rule=own.some_undoable_rule)) + [H]


class MainPropertyTest(unittest.TestCase):
    def test_rings_of_days_behind_a_turn(self):
        lengths = set()
        for hall in halls():
            for order in own.orders_of(hall[1]):
                told = ring_lengths(hall, order)
                self.assertEqual(ring_lengths(hall, turned(order)), told)
                lengths |= {length for length, _ in told}
            self.assertTrue(same_lengths(hall, hall[1][0], turned(turned(hall[1][0]))))
        self.assertGreaterEqual(lengths, {1, 2, 3, 4, 5, 6})

    def test_rings_of_days_behind_a_turn_in_greater_halls(self):
        for hall in (EVERY_SORT, THREE_STATES, own.BIG_TWO, own.BIG_THREE):
            order = own.some_orders(hall[1], 1)[0]
            told = ring_lengths(hall, order)
            for _ in order:
                order = turned(order)
                self.assertEqual(ring_lengths(hall, order), told)

    def test_moves_exactly_if_the_steps_forward_around_each_ring_agree(self):
        found = set()
        for web in own.SMALL_WEBS.values():
            told = rings_of(web)
            counts = {order: [forward(web, order, ring) for ring in told] for order in own.orders_of(web)}
            for order, other in itertools.product(own.orders_of(web), repeat=2):
                moves = moves_to(web, order, other)
                self.assertEqual(moves is not None, counts[order] == counts[other])
                if moves is not None:
                    self.assertEqual(moved_order(web, order, moves), other)
                found.add((is_forest(web), moves is None))
        self.assertEqual(found, {(True, False), (False, True), (False, False)})

    def test_alike_exactly_if_all_rules_have_the_same_days(self):
        for web in own.SMALL_WEBS.values():
            drawn = [own.some_hall(web, k, seed) for k in (2, 3) for seed in range(2)]
            days = {order: [day_table(hall, order) for hall in drawn] for order in own.orders_of(web)}
            for order, other in itertools.product(own.orders_of(web)[::3], own.orders_of(web)):
                if are_alike(web, order, other):
                    self.assertEqual(days[order], days[other])
                else:
                    rules, state = parting(web, order, other)
                    self.assertNotEqual(day((2, web, rules), order, state), day((2, web, rules), other, state))

    def test_the_same_states_stay_by_every_order(self):
        for hall in halls():
            for order in own.orders_of(hall[1]):
                still = [state for state, number in zip(states_of(hall), day_table(hall, order))
                         if number == number_of(hall, state)]
                self.assertEqual(still, staying(hall))


class TogetherTest(unittest.TestCase):
    """What one module says agrees with what another one does."""

    def test_tables_and_texts_tell_the_same_days(self):
        for hall in halls():
            order = own.some_orders(hall[1], 1)[0]
            self.assertEqual(day_table(with_tables(hall), order), day_table(hall, order))
            self.assertEqual(day_table(read_hall(write_hall(hall)), order), day_table(hall, order))

    def test_classes_and_lengths(self):
        for hall in halls():
            web = hall[1]
            table = length_table(hall)
            self.assertEqual([order for order, _ in table], [order for _, order in classes(web)])
            lengths, order = longest_ring(hall)
            self.assertEqual(lengths, max(told[-1][0] for _, told in table))
            self.assertEqual(ring_lengths(hall, order)[-1][0], lengths)
            self.assertEqual(fewest_rings(hall)[0], min(sum(many for _, many in told) for _, told in table))

    def test_rings_that_are_carried_around(self):
        for hall in halls():
            order, other = own.some_orders(hall[1], 2)
            moves = moves_to(hall[1], order, other)
            if moves is not None:
                self.assertEqual(sorted(ring for _, ring in ring_match(hall, order, moves)), rings(hall, other))
                for state in states_of(hall)[::4]:
                    self.assertEqual(
                        day(hall, other, carried(hall, order, moves, state)),
                        carried(hall, order, moves, day(hall, order, state)),
                    )

    def test_rest(self):
        for hall in halls():
            order = own.some_orders(hall[1], 1)[0]
            many, greatest, total = order_score(hall, order)
            self.assertEqual(many, sum(count for _, count in rests(hall, order)))
            self.assertEqual(many + never_rest(hall, order), len(states_of(hall)))
            days = [days_to_rest(hall, order, state) for state in states_of(hall)]
            told = [count for count in days if count is not None]
            self.assertEqual((greatest, total), (max(told, default=0), sum(told)))

    def test_quickest_and_the_orders_that_bring_rest(self):
        for hall in halls():
            for state in states_of(hall)[1::9]:
                ends = [order for other in staying(hall) for order in rest_orders(hall, state, other)]
                self.assertEqual(quickest(hall, state) is None, ends == [])
                self.assertEqual(slowest(hall, state) is None, len(ends) < len(all_arrows(hall[1])))

    def test_quiet_halls(self):
        for hall in own.quiet_halls(many=2):
            for order in own.some_orders(hall[1], 2):
                self.assertEqual(never_rest(hall, order), 0)
                for state in states_of(hall)[::3]:
                    days, (end,) = ring_of(hall, order, state)
                    self.assertIn(end, rest_reached(hall, state))
                    told = weights_down(hall, order, state)
                    self.assertEqual(days, told[-1][0] if told else 0)

    def test_adding_halls(self):
        for hall in own.small_halls(many=1, rule=own.some_adding_rule):
            order = own.some_orders(hall[1], 1)[0]
            self.assertEqual(kernel(hall, order), ahead_of(hall, order, states_of(hall)[0]))
            if can_be_undone(hall):
                self.assertEqual(matrix_power(hall, order, least_round(hall, order)), matrix_power(hall, order, 0))
                self.assertEqual(len(kernel(hall, order)), 1)

    def test_rounds(self):
        for hall in own.small_halls(many=1, rule=own.some_undoable_rule):
            order = own.some_orders(hall[1], 1)[0]
            self.assertEqual(least_round(hall, order), math.lcm(*[length for length, _ in ring_lengths(hall, order)]))
            for state in states_of(hall)[::5]:
                self.assertEqual(ahead_of(hall, order, state), [day_before(hall, order, state)])

    def test_parts(self):
        for hall in halls():
            order = own.some_orders(hall[1], 1)[0]
            whole = [(1, 1)]
            for told in split_lengths(hall, order):
                whole = beside_lengths(whole, told)
            self.assertEqual(whole, ring_lengths(hall, order))

    def test_samples_of_all_states_leave_the_orders_with_like_days(self):
        for web in own.SMALL_WEBS.values():
            hall = own.some_hall(web, 2, 3)
            for group in like_days(hall):
                samples = tuple((state, day(hall, group[0], state)) for state in states_of(hall)[:20])
                found = fitting_arrows(hall, samples)
                for order in group:
                    self.assertIn(arrows(web, order), found)
                    self.assertIsNone(unlike_state(hall, group[0], order))
                for told in found:
                    self.assertTrue(fits(hall, order_for(web, told), samples))
                    if len(states_of(hall)) <= 20:
                        self.assertIn(order_for(web, told), group)

    def test_a_session_goes_as_the_functions_do(self):
        for hall in halls():
            order = own.some_orders(hall[1], 1)[0]
            state = states_of(hall)[-2]
            some = Session(hall, order, state)
            some.pass_days(1)
            self.assertEqual(some.state(), day(hall, order, state))
            self.assertEqual(some.ring(), ring_of(hall, order, some.state()))
            some.undo()
            some.turn()
            self.assertEqual(some.state(), carried(hall, order, [("turn",)], state))
            self.assertEqual(some.order(), moved_order(hall[1], order, [("turn",)]))
            self.assertEqual(len(some.ring()[1]), len(ring_of(hall, order, state)[1]))


if __name__ == "__main__":
    unittest.main()
