"""Rings of days."""

import unittest

from eachinturn.days import after
from eachinturn.errors import BadCount
from eachinturn.halls import states_of
from eachinturn.rings import (
    deepest, meet, return_holds, return_paper, ring_lengths, ring_of, rings, same_far,
)
from tests import own
from tests.helpers import EVERY_SORT, H, THREE_STATES, Hostile, LikeAll, as_lists, never_right, replaced
from tests.test_days import COUNTER, DIGITS

ABC = ("a", "b", "c")
# A counter with some states ahead of its ring: f falls to 0 and then stays there.
FALLING = (2, (DIGITS + ("f",), COUNTER[1][1]), COUNTER[2] + (("most", 9),))


def halls_and_orders(many=2):
    for hall in list(own.small_halls()) + [H, EVERY_SORT, THREE_STATES, COUNTER, FALLING]:
        for order in own.some_orders(hall[1], many):
            yield hall, order


class RingsTest(unittest.TestCase):
    def test_against_days(self):
        for hall, order in halls_and_orders():
            found = rings(hall, order)
            self.assertEqual(found, own.rings_of(own.table_of_days(hall, order)))
            self.assertEqual(found, sorted(found))
            self.assertIs(type(found), list)
            for ring in found:
                self.assertIs(type(ring), tuple)
                self.assertEqual({type(state) for state in ring}, {tuple})
                self.assertEqual(ring[0], min(ring))

    def test_the_example(self):
        self.assertEqual(rings(H, ABC), own.rings_of(own.table_of_days(H, ABC)))
        self.assertIn(((0, 0, 0),), rings(H, ABC))

    def test_of_many_states(self):
        for hall in (own.BIG_TWO, own.BIG_THREE):
            for order in own.some_orders(hall[1], 6):
                self.assertEqual(rings(hall, order), own.rings_of(own.table_of_days(hall, order)))

    def test_each_state_by_itself(self):
        hall = (2, (("a", "b"), ()), (("keep",), ("keep",)))
        expected = [((0, 0),), ((0, 1),), ((1, 0),), ((1, 1),)]
        self.assertEqual(rings(hall, ("b", "a")), expected)
        self.assertEqual(ring_lengths(hall, ("b", "a")), [(1, 4)])

    def test_one_ring_of_all(self):
        found = rings(COUNTER, DIGITS[::-1])
        self.assertEqual([len(ring) for ring in found], [32])
        self.assertEqual(found[0][:3], ((0, 0, 0, 0, 0), (1, 0, 0, 0, 0), (0, 1, 0, 0, 0)))


class RingLengthsTest(unittest.TestCase):
    def test_against_rings(self):
        lengths = set()
        for hall, order in halls_and_orders():
            found = ring_lengths(hall, order)
            told = [len(ring) for ring in own.rings_of(own.table_of_days(hall, order))]
            self.assertEqual(found, [(length, told.count(length)) for length in sorted(set(told))])
            self.assertIs(type(found), list)
            self.assertEqual({type(pair) for pair in found}, {tuple})
            lengths.add(len(found))
        self.assertGreaterEqual(lengths, {1, 2, 3})


class RingOfTest(unittest.TestCase):
    def test_against_days(self):
        depths = set()
        for hall, order in halls_and_orders():
            days = own.table_of_days(hall, order)
            for state in states_of(hall)[::3] + states_of(hall)[-1:]:
                ahead, ring = own.ring_behind(days, state)
                at = ring.index(min(ring))
                found = ring_of(hall, order, state)
                self.assertEqual(found, (ahead, tuple(ring[at:] + ring[:at])))
                self.assertEqual([type(part) for part in found], [int, tuple])
                self.assertIs(type(found), tuple)
                depths.add(ahead)
        self.assertGreaterEqual(depths, {0, 1, 2, 3})

    def test_on_a_ring(self):
        for hall, order in halls_and_orders(many=1):
            for ring in rings(hall, order):
                for state in ring:
                    self.assertEqual(ring_of(hall, order, state), (0, ring))


class DeepestTest(unittest.TestCase):
    def test_against_all_states(self):
        for hall, order in halls_and_orders():
            depths = [ring_of(hall, order, state)[0] for state in states_of(hall)]
            found = deepest(hall, order)
            self.assertEqual(found, (max(depths), states_of(hall)[depths.index(max(depths))]))
            self.assertIs(type(found), tuple)

    def test_where_all_are_on_rings(self):
        self.assertEqual(deepest(COUNTER, DIGITS[::-1]), (0, (0,) * 5))

    def test_the_first_of_several(self):
        self.assertEqual(deepest(FALLING, DIGITS[::-1] + ("f",)), (1, (0, 0, 0, 0, 0, 1)))

    def test_of_many_states(self):
        for hall in (own.BIG_TWO, own.BIG_THREE):
            for order in own.some_orders(hall[1], 3):
                days = own.table_of_days(hall, order)
                depths = [own.ring_behind(days, state)[0] for state in states_of(hall)]
                self.assertEqual(deepest(hall, order), (max(depths), states_of(hall)[depths.index(max(depths))]))


class ReturnPaperTest(unittest.TestCase):
    def papers(self):
        for hall, order in halls_and_orders(many=1):
            for state in states_of(hall)[::4] + states_of(hall)[-1:]:
                yield hall, order, state, return_paper(hall, order, state)

    def test_against_the_ring(self):
        for hall, order, state, paper in self.papers():
            days, ring = ring_of(hall, order, state)
            self.assertEqual(paper, (days, len(ring), after(hall, order, state, days)))
            self.assertIs(type(paper), tuple)
            self.assertEqual([type(part) for part in paper], [int, int, tuple])
            self.assertIs(return_holds(hall, order, state, paper), True)

    def test_other_days_and_lengths(self):
        for hall, order, state, (days, length, end) in self.papers():
            self.assertFalse(return_holds(hall, order, state, (days + 1, length, after(hall, order, state, days + 1))))
            self.assertFalse(return_holds(hall, order, state, (days + length, length, end)))
            self.assertFalse(return_holds(hall, order, state, (days, 2 * length, end)))
            self.assertFalse(return_holds(hall, order, state, (days, length + 1, end)))
            self.assertFalse(return_holds(hall, order, state, (days, length - 1, end)))
            self.assertFalse(return_holds(hall, order, state, (days, -length, end)))
            self.assertFalse(return_holds(hall, order, state, (days, 0, end)))
            self.assertFalse(return_holds(hall, order, state, (days - 1, length, end)))
            self.assertFalse(return_holds(hall, order, state, (days + 1, length, end)))
            self.assertFalse(return_holds(hall, order, state, (-1, length, end)))
            if days:
                early = after(hall, order, state, days - 1)
                self.assertFalse(return_holds(hall, order, state, (days - 1, length, early)))
                self.assertFalse(return_holds(hall, order, state, (0, length, state)))

    def test_another_state(self):
        for hall, order, state, (days, length, end) in list(self.papers())[::3]:
            for other in states_of(hall)[::5] + [end]:
                self.assertIs(return_holds(hall, order, state, (days, length, other)), other == end)

    def test_truths_in_it(self):
        hall = (2, (("a", "b"), ()), (("odd",), ("most", 0)))
        self.assertEqual(return_paper(hall, ("a", "b"), (1, 0)), (1, 1, (1, 1)))
        for paper in (
            (True, 1, (1, 1)), (1, True, (1, 1)), (1, 1, (True, 1)), (1, 1, (1, True)), (True, True, (True, True)),
        ):
            self.assertIs(return_holds(hall, ("a", "b"), (1, 0), paper), False)
        self.assertIs(return_holds(hall, ("a", "b"), (1, 1), (0, 1, (1, 1))), True)
        self.assertIs(return_holds(hall, ("a", "b"), (1, 1), (False, 1, (1, 1))), False)

    def test_any_object(self):
        for hall, order, state, paper in list(self.papers())[::15]:
            for thing in never_right() + list(as_lists(paper)) + [paper[:2], paper + (None,), (paper,), list(paper)]:
                self.assertIs(return_holds(hall, order, state, thing), False)
            for instead in (None, True, False, Hostile(), LikeAll(), "1", (), [], 10 ** 59):
                for thing in replaced(paper, instead):
                    self.assertIs(return_holds(hall, order, state, thing), False)


class MeetingTest(unittest.TestCase):
    def cases(self):
        for hall, order in halls_and_orders(many=1):
            days = own.table_of_days(hall, order)
            states = states_of(hall)
            for one in states[::9] + states[-1:]:
                for two in states[::10] + states[1:2]:
                    yield hall, order, one, two, self.meeting(days, one, two)

    def meeting(self, days, one, two):
        for count in range(len(days) + 1):
            if one == two:
                return count
            one, two = days[one], days[two]
        return None

    def test_meet(self):
        found = set()
        for hall, order, one, two, expected in self.cases():
            self.assertEqual(meet(hall, order, one, two), expected)
            found.add(expected)
        self.assertGreaterEqual(found, {None, 0, 1, 2})

    def test_a_state_and_itself(self):
        for hall, order in halls_and_orders(many=1):
            for state in states_of(hall)[::3]:
                self.assertEqual(meet(hall, order, state, state), 0)
                self.assertIs(type(meet(hall, order, state, state)), int)

    def test_never(self):
        self.assertIsNone(meet(COUNTER, DIGITS[::-1], (0, 0, 0, 0, 0), (1, 0, 0, 0, 0)))
        self.assertIs(same_far(COUNTER, DIGITS[::-1], (0, 0, 0, 0, 0), (1, 0, 0, 0, 0), 10 ** 30), False)

    def test_same_far(self):
        for hall, order, one, two, first in self.cases():
            self.assertIs(same_far(hall, order, one, two, 0), one == two)
            self.assertIs(same_far(hall, order, one, two, 10 ** 30), first is not None)
            if first is not None:
                self.assertIs(same_far(hall, order, one, two, first), True)
                self.assertIs(same_far(hall, order, one, two, first + 1), True)
                if first:
                    self.assertIs(same_far(hall, order, one, two, first - 1), False)

    def test_late_meetings(self):
        # what d has moves by one place a day, and the states are alike when the last of it is gone
        hall = (2, (("a", "b", "c", "d"), (("a", "b"), ("b", "c"), ("c", "d"))), (
            ("copy", "b"), ("copy", "c"), ("copy", "d"), ("most", 9),
        ))
        self.assertEqual(meet(hall, ("a", "b", "c", "d"), (0, 0, 0, 0), (0, 0, 0, 1)), 4)
        self.assertEqual(meet(hall, ("d", "c", "b", "a"), (0, 0, 0, 0), (0, 0, 0, 1)), 1)
        for count in range(7):
            self.assertIs(same_far(hall, ("a", "b", "c", "d"), (0, 0, 0, 0), (0, 0, 0, 1), count), count >= 4)

    def test_what_is_no_day(self):
        for count in (-1, 10 ** 30 + 1, 10 ** 59, True, None, "1", [1]):
            with self.assertRaises(BadCount):
                same_far(H, ABC, (1, 0, 0), (1, 0, 0), count)


if __name__ == "__main__":
    unittest.main()
