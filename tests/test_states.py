"""The states of a hall and their numbers."""

import itertools
import unittest

from eachinturn.halls import number_of, states_of
from tests.helpers import EIGHT, EVERY_SORT, H, THREE_STATES


def hall_of(k, many):
    return (k, (EIGHT[:many], ()), (("keep",),) * many)


SIZES = [(2, many) for many in range(1, 9)] + [(3, many) for many in range(1, 6)]


class StatesOfTest(unittest.TestCase):
    def test_the_example(self):
        self.assertEqual(states_of(H), [
            (0, 0, 0), (0, 0, 1), (0, 1, 0), (0, 1, 1), (1, 0, 0), (1, 0, 1), (1, 1, 0), (1, 1, 1),
        ])

    def test_three_states(self):
        self.assertEqual(states_of(hall_of(3, 1)), [(0,), (1,), (2,)])
        self.assertEqual(
            states_of(hall_of(3, 2)), [(0, 0), (0, 1), (0, 2), (1, 0), (1, 1), (1, 2), (2, 0), (2, 1), (2, 2)],
        )

    def test_each_size(self):
        for k, many in SIZES:
            expected = list(itertools.product(range(k), repeat=many))
            self.assertEqual(states_of(hall_of(k, many)), expected)
            self.assertEqual(len(expected), k ** many)
        self.assertEqual(len(states_of(hall_of(2, 8))), 256)
        self.assertEqual(len(states_of(hall_of(3, 5))), 243)

    def test_whatever_the_web_and_the_rules(self):
        self.assertEqual(states_of(EVERY_SORT), states_of(hall_of(2, 7)))
        self.assertEqual(states_of(THREE_STATES), states_of(hall_of(3, 4)))

    def test_a_list_of_tuples_that_is_new(self):
        found = states_of(H)
        self.assertIs(type(found), list)
        self.assertEqual({type(state) for state in found}, {tuple})
        self.assertEqual({type(own) for state in found for own in state}, {int})
        del found[3:]
        found[0] = None
        self.assertEqual(len(states_of(H)), 8)
        self.assertEqual(states_of(H)[0], (0, 0, 0))
        self.assertIsNot(states_of(H), states_of(H))


class NumberOfTest(unittest.TestCase):
    def test_the_first_place_has_the_first_digit(self):
        self.assertEqual(number_of(H, (0, 0, 0)), 0)
        self.assertEqual(number_of(H, (0, 0, 1)), 1)
        self.assertEqual(number_of(H, (0, 1, 0)), 2)
        self.assertEqual(number_of(H, (1, 0, 0)), 4)
        self.assertEqual(number_of(H, (1, 1, 1)), 7)
        self.assertEqual(number_of(THREE_STATES, (2, 0, 1, 0)), 57)
        self.assertEqual(number_of(THREE_STATES, (0, 0, 0, 2)), 2)
        self.assertEqual(number_of(THREE_STATES, (2, 0, 0, 0)), 54)

    def test_it_is_the_index_in_the_list(self):
        for k, many in SIZES:
            hall = hall_of(k, many)
            numbers = [number_of(hall, state) for state in states_of(hall)]
            self.assertEqual(numbers, list(range(k ** many)))

    def test_the_last_ones(self):
        self.assertEqual(number_of(hall_of(2, 8), (1,) * 8), 255)
        self.assertEqual(number_of(hall_of(3, 5), (2,) * 5), 242)


if __name__ == "__main__":
    unittest.main()
