"""Halls that add, and the rounds of halls that can be undone."""

import itertools
import math
import unittest

from eachinturn.adding import day_matrix, kernel, least_round, matrix_power, sum_of
from eachinturn.days import after, ahead_of, day, without_past
from eachinturn.errors import BadCount, BadHall, BadOrder, BadRules, BadState
from eachinturn.halls import states_of, table_of
from eachinturn.undoing import can_be_undone
from tests import own
from tests.helpers import EVERY_SORT, H, THREE_STATES, WEB, Hostile
from tests.test_days import COUNTER, DIGITS

ABC = ("a", "b", "c")
THREE_H = (3,) + H[1:]
BIG_ADDING = [
    own.some_hall(own.EIGHT_WITH_FOURTEEN, 2, 1, own.some_adding_rule),
    own.some_hall(own.FIVE_WEBS["a house"], 3, 2, own.some_adding_rule),
]

# What is no adding hall, each of them a hall on the same web
NOT_ADDING = [
    (2, WEB, H[2][:2] + (("least",),)),
    (2, WEB, (("greatest",),) + H[2][1:]),
    (2, WEB, (("most", 0),) + H[2][1:]),
    (2, WEB, (("copy", "b"), ("table", table_of(H, "b")), ("copy", "b"))),
    (2, WEB, (("sum", ((0, 1), (1, 0))), ("odd",), ("copy", "b"))),
    (3, WEB, H[2][:2] + (("table", table_of(THREE_H, "c")),)),
    (3, WEB, (("sum", ((0, 0, 0), (1, 1, 1), (2, 2, 2))), ("odd",), ("keep",))),
]


def halls(many=2):
    return list(own.small_halls(many=many, rule=own.some_adding_rule)) + [H, THREE_H]


def times(hall, matrix, state):
    """The product of a matrix with a state."""
    return tuple(sum(one * two for one, two in zip(row, state)) % hall[0] for row in matrix)


def multiplied(hall, matrix, other):
    return tuple(
        tuple(sum(row[at] * other[at][column] for at in range(len(other))) % hall[0] for column in range(len(other)))
        for row in matrix
    )


def added(hall, state, other):
    return tuple((one + two) % hall[0] for one, two in zip(state, other))


class DayMatrixTest(unittest.TestCase):
    def test_by_hand(self):
        # a copies b, then b adds all, then c copies b
        self.assertEqual(day_matrix(H, ABC), ((0, 1, 0), (0, 0, 1), (0, 0, 1)))
        self.assertEqual(day_matrix(THREE_H, ABC), ((0, 1, 0), (0, 2, 1), (0, 2, 1)))
        # b adds all, then a and c copy
        self.assertEqual(day_matrix(H, ("b", "a", "c")), ((1, 1, 1),) * 3)
        self.assertEqual(day_matrix((3, (("q",), ()), (("odd",),)), ("q",)), ((1,),))

    def test_the_sequence_of_the_web(self):
        web = (("z", "m", "a"), (("a", "m"), ("m", "z")))
        hall = (2, web, (("copy", "m"), ("keep",), ("odd",)))
        for order in own.orders_of(web):
            self.assertEqual(day_matrix(hall, order), ((0, 1, 0), (0, 1, 0), (0, 1, 1)))

    def test_the_day_is_the_product(self):
        entries = set()
        for hall in halls():
            for order in own.orders_of(hall[1])[::4]:
                matrix = day_matrix(hall, order)
                self.assertIs(type(matrix), tuple)
                self.assertEqual({(type(row), len(row)) for row in matrix}, {(tuple, len(hall[2]))})
                self.assertEqual({type(entry) for row in matrix for entry in row}, {int})
                entries |= {(hall[0], entry) for row in matrix for entry in row}
                for state in states_of(hall)[::3]:
                    self.assertEqual(own.day_of(hall, order, state), times(hall, matrix, state))
        self.assertEqual(entries, {(2, 0), (2, 1), (3, 0), (3, 1), (3, 2)})

    def test_of_many_states(self):
        for hall in BIG_ADDING:
            for order in own.some_orders(hall[1], 2):
                matrix = day_matrix(hall, order)
                for state in states_of(hall)[::7]:
                    self.assertEqual(own.day_of(hall, order, state), times(hall, matrix, state))

    def test_halls_that_do_not_add(self):
        for hall in NOT_ADDING:
            for function, more in ((day_matrix, ()), (matrix_power, (1,)), (kernel, ())):
                for order in (ABC, None, Hostile(), ["a", "b", "c"]):
                    with self.assertRaises(BadRules):
                        function(hall, order, *more)
            with self.assertRaises(BadRules):
                matrix_power(hall, ABC, -1)
        for function, more in ((day_matrix, ()), (matrix_power, (None,)), (kernel, ())):
            with self.assertRaises(BadHall):
                function(H[:2], None, *more)
            with self.assertRaises(BadOrder):
                function(H, ("a", "b"), *more)


class MatrixPowerTest(unittest.TestCase):
    def test_multiplied_again_and_again(self):
        for hall in halls():
            for order in own.some_orders(hall[1], 2):
                matrix = day_matrix(hall, order)
                many = len(hall[2])
                expected = tuple(tuple(1 if one == two else 0 for two in range(many)) for one in range(many))
                for count in range(12):
                    self.assertEqual(matrix_power(hall, order, count), expected, count)
                    expected = multiplied(hall, matrix, expected)

    def test_far_days(self):
        for hall in halls(many=1) + BIG_ADDING:
            order = own.some_orders(hall[1], 1)[0]
            for count in (10 ** 30, 10 ** 30 - 1, 10 ** 17 + 3, 501):
                matrix = matrix_power(hall, order, count)
                for state in states_of(hall)[::11]:
                    self.assertEqual(times(hall, matrix, state), after(hall, order, state, count))

    def test_by_squares(self):
        for hall in BIG_ADDING:
            order = hall[1][0]
            expected, square, left = matrix_power(hall, order, 0), day_matrix(hall, order), 10 ** 30
            while left:
                if left % 2:
                    expected = multiplied(hall, square, expected)
                square = multiplied(hall, square, square)
                left //= 2
            self.assertEqual(matrix_power(hall, order, 10 ** 30), expected)

    def test_what_is_no_count(self):
        for count in (10 ** 30 + 1, 10 ** 59, -1, True, False, None, "1", (1,), [0], Hostile()):
            with self.assertRaises(BadCount):
                matrix_power(H, ABC, count)


class SumTest(unittest.TestCase):
    def test_place_by_place(self):
        self.assertEqual(sum_of(H, (1, 0, 1), (1, 1, 0)), (0, 1, 1))
        self.assertEqual(sum_of(THREE_H, (2, 1, 0), (2, 2, 2)), (1, 0, 2))

    def test_of_any_hall(self):
        for hall in list(own.small_halls(many=1)) + [EVERY_SORT, THREE_STATES]:
            for state, other in itertools.product(states_of(hall)[::7], states_of(hall)[::5]):
                found = sum_of(hall, state, other)
                self.assertEqual(found, added(hall, state, other))
                self.assertIs(type(found), tuple)

    def test_the_day_of_a_sum_is_the_sum_of_the_days(self):
        for hall in halls(many=1):
            for order in own.orders_of(hall[1]):
                for state, other in itertools.product(states_of(hall)[1::7], states_of(hall)[::6]):
                    self.assertEqual(
                        day(hall, order, sum_of(hall, state, other)),
                        sum_of(hall, day(hall, order, state), day(hall, order, other)),
                    )

    def test_wrong_arguments(self):
        for state in ((2, 0, 0), (0, 0), [0, 0, 0], None):
            with self.assertRaises(BadState):
                sum_of(H, state, None)
            with self.assertRaises(BadState):
                sum_of(H, (0, 0, 0), state)
        with self.assertRaises(BadHall):
            sum_of(WEB, None, None)


class KernelTest(unittest.TestCase):
    def test_against_all_states(self):
        many = set()
        for hall in halls() + BIG_ADDING:
            for order in own.some_orders(hall[1], 2):
                noughts = (0,) * len(hall[2])
                expected = [state for state in states_of(hall) if own.day_of(hall, order, state) == noughts]
                self.assertEqual(kernel(hall, order), expected)
                self.assertIs(type(kernel(hall, order)), list)
                many.add((hall[0], len(expected)))
        self.assertGreaterEqual(many, {(2, 1), (2, 2), (2, 4), (3, 1), (3, 3), (3, 9)})
        for k, states in many:
            self.assertIn(states, [k ** power for power in range(9)])

    def test_by_hand(self):
        self.assertEqual(kernel(H, ABC), [(0, 0, 0), (1, 0, 0)])
        self.assertEqual(kernel(H, ("b", "a", "c")), [(0, 0, 0), (0, 1, 1), (1, 0, 1), (1, 1, 0)])
        self.assertEqual(kernel((3, (("q",), ()), (("keep",),)), ("q",)), [(0,)])

    def test_as_many_ahead_of_each_state_that_has_any(self):
        for hall in halls(many=1):
            for order in own.some_orders(hall[1], 1):
                many = len(kernel(hall, order))
                past = without_past(hall, order)
                for state in states_of(hall)[::3]:
                    self.assertEqual(len(ahead_of(hall, order, state)), 0 if state in past else many)
                self.assertEqual((len(states_of(hall)) - len(past)) * many, len(states_of(hall)))


class LeastRoundTest(unittest.TestCase):
    def check(self, hall, order):
        """Days are counted, for all states at once, until all are what they were."""
        days = own.table_of_days(hall, order)
        states = own.states_of(hall)
        now, count = [days[state] for state in states], 1
        while now != states and count < 3000:
            now, count = [days[state] for state in now], count + 1
        if count < 3000:
            self.assertEqual(least_round(hall, order), count)
        return count

    def test_against_days_of_all_states(self):
        adding = [hall for hall in halls() if can_be_undone(hall)]
        self.assertGreater(len(adding), 10)
        found = set()
        for hall in list(own.small_halls(rule=own.some_undoable_rule)) + adding:
            for order in own.some_orders(hall[1], 2):
                found.add(self.check(hall, order))
        self.assertGreaterEqual(found, {1, 2, 3, 4, 6})

    def test_of_many_states(self):
        halls = [own.some_hall(own.EIGHT_WITH_FEW, 2, seed, own.some_undoable_rule) for seed in range(4)]
        for hall in halls + [own.some_hall(own.FIVE_WEBS["three ways"], 3, 3, own.some_undoable_rule)]:
            order = hall[1][0]
            days = own.table_of_days(hall, order)
            lengths = [len(ring) for ring in own.rings_of(days)]
            self.assertEqual(least_round(hall, order), math.lcm(*lengths))
            for state in states_of(hall)[::9]:
                self.assertEqual(after(hall, order, state, least_round(hall, order)), state)

    def test_by_hand(self):
        self.assertEqual(least_round(COUNTER, DIGITS[::-1]), 32)
        self.assertEqual(least_round((2, WEB, (("keep",),) * 3), ABC), 1)
        # rings of two days and of three
        turning = (3, (("q", "b"), ()), (("table", (1, 0, 2)), ("table", (1, 2, 0))))
        self.assertEqual(least_round(turning, ("b", "q")), 6)

    def test_halls_that_cannot_be_undone(self):
        for hall in (H, THREE_H, (2, WEB, (("odd",), ("keep",), ("copy", "b"))), (2, WEB, (("most", 1),) * 3)):
            for order in (ABC, None, Hostile()):
                with self.assertRaises(BadRules):
                    least_round(hall, order)
        with self.assertRaises(BadHall):
            least_round(None, None)
        with self.assertRaises(BadOrder):
            least_round((2, WEB, (("odd",),) * 3), ("a", "b", "b"))


if __name__ == "__main__":
    unittest.main()
