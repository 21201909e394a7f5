"""Steps and days."""

import unittest

from eachinturn.days import after, ahead_of, day, day_table, first_unlike_day, step, story, watched, without_past
from eachinturn.errors import BadCount
from eachinturn.halls import is_hall, neighbours, number_of, states_of, with_tables
from tests import own
from tests.helpers import EIGHT, EVERY_SORT, H, THREE_STATES
from tests.test_tables import hall_around_mid, rules_for, web_around_mid

ABC, BAC = ("a", "b", "c"), ("b", "a", "c")

# By an order from d to a what d has moves by one place a day; the place behind the moved ones takes its time.
LATER = (2, (("a", "b", "c", "d"), (("a", "b"), ("b", "c"), ("c", "d"))), (
    ("copy", "b"), ("copy", "c"), ("copy", "d"), ("keep",),
))


def carry_rule(at, skipped=0):
    """The table of a digit of a counter: it changes if all digits ahead of it are 1; the first neighbours are skipped."""
    table = []
    for index in range(32 << skipped):
        others = [index >> (1 + skipped + number) & 1 for number in range(4)]
        table.append(index & 1 ^ all(others[:at]))
    return ("table", tuple(table))


# By any order in which e, d, c, b, a come in this sequence the digits a to e count the days up to 32.
DIGITS = ("a", "b", "c", "d", "e")
COUNTER_ROADS = tuple((one, other) for at, one in enumerate(DIGITS) for other in DIGITS[at + 1:])
COUNTER = (2, (DIGITS, COUNTER_ROADS), tuple(carry_rule(at) for at in range(5)))
# x gets what e has, and y what x has: which of these is first is seen when e changes.
WATCHED_COUNTER = (
    2, (("y", "x") + DIGITS, COUNTER_ROADS[:8] + (("x", "y"),) + COUNTER_ROADS[8:] + (("e", "x"),)),
    (("copy", "x"), ("copy", "e")) + tuple(carry_rule(at) for at in range(4)) + (carry_rule(4, skipped=1),),
)


class StepTest(unittest.TestCase):
    def test_the_example(self):
        self.assertEqual(step(H, (1, 0, 0), "a"), (0, 0, 0))
        self.assertEqual(step(H, (1, 0, 0), "b"), (1, 1, 0))
        self.assertEqual(step(H, (1, 1, 0), "c"), (1, 1, 1))
        self.assertEqual(step(H, (1, 0, 0), "c"), (1, 0, 0))

    def check(self, k, d):
        around = neighbours(web_around_mid(d), "mid")
        for rule in rules_for(k, around):
            hall = hall_around_mid(k, d, rule)
            for state in states_of(hall)[::5] + states_of(hall)[-1:]:
                found = step(hall, state, "mid")
                self.assertEqual(found, own.step_of(hall, state, "mid"), (k, d, rule, state))
                self.assertIs(type(found), tuple)
                self.assertEqual({type(part) for part in found}, {int})

    def test_each_sort_of_rule_with_two_states(self):
        for d in range(6):
            self.check(2, d)

    def test_each_sort_of_rule_with_three_states(self):
        for d in range(4):
            self.check(3, d)

    def test_seven_neighbours(self):
        for rule in (("odd",), ("most", 4), ("copy", "c"), ("least",), ("greatest",)):
            hall = hall_around_mid(2, 7, rule)
            for state in states_of(hall):
                self.assertEqual(step(hall, state, "mid"), own.step_of(hall, state, "mid"))

    def test_each_place_of_each_state(self):
        for hall in list(own.small_halls()) + [H, EVERY_SORT, THREE_STATES]:
            for state in states_of(hall):
                for place in hall[1][0]:
                    self.assertEqual(step(hall, state, place), own.step_of(hall, state, place))


class DayTest(unittest.TestCase):
    def test_the_examples(self):
        self.assertEqual(day(H, ABC, (1, 0, 0)), (0, 0, 0))
        self.assertEqual(day(H, BAC, (1, 0, 0)), (1, 1, 1))

    def test_the_steps_one_after_the_other(self):
        for hall in own.small_halls(many=1):
            for order in own.some_orders(hall[1], 4):
                for state in states_of(hall):
                    expected = state
                    for place in order:
                        expected = step(hall, expected, place)
                    self.assertEqual(day(hall, order, state), expected)
                    self.assertEqual(own.day_of(hall, order, state), expected)

    def test_each_place_sees_what_those_ahead_have_set(self):
        places = ("a", "b", "c", "d")
        hall = (2, (places, tuple(zip(places, places[1:]))), (
            ("keep",), ("copy", "a"), ("copy", "b"), ("copy", "c"),
        ))
        self.assertEqual(day(hall, places, (1, 0, 0, 0)), (1, 1, 1, 1))
        self.assertEqual(day(hall, places[::-1], (1, 0, 0, 0)), (1, 1, 0, 0))
        self.assertEqual(day(hall, ("c", "b", "a", "d"), (1, 0, 1, 0)), (1, 1, 0, 0))

    def test_the_same_by_tables(self):
        for hall in [H, EVERY_SORT, THREE_STATES] + list(own.small_halls(many=1)):
            tables = with_tables(hall)
            for order in own.some_orders(hall[1], 2):
                for state in states_of(hall)[::3]:
                    self.assertEqual(day(tables, order, state), day(hall, order, state))


class StoryTest(unittest.TestCase):
    def test_of_no_day_and_of_one(self):
        self.assertEqual(story(H, ABC, (1, 0, 0), 0), [(1, 0, 0)])
        self.assertEqual(story(H, BAC, (1, 0, 0), 1), [(1, 0, 0), (1, 1, 1)])

    def test_against_days(self):
        for hall in own.small_halls(many=1):
            order = own.some_orders(hall[1], 1)[0]
            for state in states_of(hall)[::4]:
                for count in (2, 3, 17):
                    self.assertEqual(story(hall, order, state, count), own.story_of(hall, order, state, count))

    def test_five_hundred_days(self):
        for hall, order in ((H, BAC), (own.BIG_TWO, EIGHT), (own.BIG_THREE, own.BIG_THREE[1][0])):
            state = states_of(hall)[1]
            found = story(hall, order, state, 500)
            self.assertEqual(found, own.story_of(hall, order, state, 500))
            self.assertEqual(len(found), 501)
            self.assertIs(type(found), list)
            self.assertEqual({type(told) for told in found}, {tuple})

    def test_what_is_no_count(self):
        for count in (501, 502, -1, 10 ** 30, 10 ** 59, True, False, None, "1", (1,), [1]):
            with self.assertRaises(BadCount):
                story(H, ABC, (1, 0, 0), count)


class AfterTest(unittest.TestCase):
    def test_small_counts(self):
        for hall in own.small_halls(many=1):
            order = own.some_orders(hall[1], 1)[0]
            for state in states_of(hall)[::4]:
                for count, expected in enumerate(own.story_of(hall, order, state, 20)):
                    self.assertEqual(after(hall, order, state, count), expected)

    def test_about_the_length_of_the_ring(self):
        for hall in (H, COUNTER, own.BIG_TWO, own.BIG_THREE, EVERY_SORT):
            self.assertTrue(is_hall(hall))
            for order in own.some_orders(hall[1], 2):
                days = own.table_of_days(hall, order)
                for state in states_of(hall)[::50] + states_of(hall)[-1:]:
                    ahead, ring = own.ring_behind(days, state)
                    expected = own.story_of(hall, order, state, ahead + 3 * len(ring) + 2)
                    for count in (0, ahead - 1, ahead, ahead + 1, ahead + len(ring) - 1, ahead + len(ring),
                                  ahead + len(ring) + 1, ahead + 2 * len(ring), ahead + 3 * len(ring) + 1):
                        self.assertEqual(after(hall, order, state, max(count, 0)), expected[max(count, 0)])

    def test_far_days(self):
        for hall in (H, COUNTER, own.BIG_TWO, own.BIG_THREE):
            for order in own.some_orders(hall[1], 2):
                days = own.table_of_days(hall, order)
                for state in states_of(hall)[::60]:
                    ahead, ring = own.ring_behind(days, state)
                    for count in (10 ** 30, 10 ** 30 - 1, 10 ** 29 + 7, 10 ** 12):
                        self.assertEqual(after(hall, order, state, count), ring[(count - ahead) % len(ring)])

    def test_a_long_ring(self):
        order, state = DIGITS[::-1], (0, 1, 0, 0, 0)
        expected = own.story_of(COUNTER, order, state, 99)
        self.assertEqual(len(set(expected)), 32)
        self.assertEqual([after(COUNTER, order, state, count) for count in range(100)], expected)
        self.assertEqual(after(COUNTER, order, state, 32 * 10 ** 20 + 3), (1, 0, 1, 0, 0))

    def test_what_is_no_count(self):
        for count in (10 ** 30 + 1, 10 ** 59, -1, -10 ** 30, True, False, None, "0", (), [0]):
            with self.assertRaises(BadCount):
                after(H, ABC, (1, 0, 0), count)


class TablesTest(unittest.TestCase):
    def halls_and_orders(self):
        for hall in list(own.small_halls()) + [H, EVERY_SORT, THREE_STATES, own.BIG_TWO, own.BIG_THREE]:
            for order in own.some_orders(hall[1], 2):
                yield hall, order

    def test_day_table(self):
        for hall, order in self.halls_and_orders():
            days = own.table_of_days(hall, order)
            states = states_of(hall)
            found = day_table(hall, order)
            self.assertEqual(found, [number_of(hall, days[state]) for state in states])
            self.assertIs(type(found), list)

    def test_the_table_of_the_example(self):
        self.assertEqual(day_table(H, ABC)[4], 0)
        self.assertEqual(day_table(H, BAC)[4], 7)

    def test_ahead_of(self):
        for hall, order in self.halls_and_orders():
            days = own.table_of_days(hall, order)
            for state in states_of(hall)[:40]:
                found = ahead_of(hall, order, state)
                self.assertEqual(found, [other for other in states_of(hall) if days[other] == state])
                self.assertIs(type(found), list)

    def test_without_past(self):
        some = 0
        for hall, order in self.halls_and_orders():
            made = set(own.table_of_days(hall, order).values())
            found = without_past(hall, order)
            self.assertEqual(found, [state for state in states_of(hall) if state not in made])
            some += len(found)
        self.assertGreater(some, 0)
        keep = (2, (("a", "b"), ()), (("keep",), ("keep",)))
        self.assertEqual(without_past(keep, ("b", "a")), [])


class WatchedTest(unittest.TestCase):
    def test_against_the_story(self):
        for hall in own.small_halls(many=1):
            order = own.some_orders(hall[1], 1)[0]
            state = states_of(hall)[-2]
            for count in (0, 1, 9):
                told = own.story_of(hall, order, state, count)
                for number, place in enumerate(hall[1][0]):
                    found = watched(hall, order, state, place, count)
                    self.assertEqual(found, tuple(one[number] for one in told))
                    self.assertIs(type(found), tuple)
                    self.assertEqual(len(found), count + 1)

    def test_five_hundred_days(self):
        self.assertEqual(len(watched(own.BIG_TWO, EIGHT, (1,) * 8, "d", 500)), 501)
        for count in (501, -1, True, None):
            with self.assertRaises(BadCount):
                watched(H, ABC, (1, 0, 0), "a", count)


class FirstUnlikeDayTest(unittest.TestCase):
    def expected(self, hall, order, other, state):
        one = two = state
        days, others = own.table_of_days(hall, order), own.table_of_days(hall, other)
        for count in range(1, len(days) + 2):
            one, two = days[one], others[two]
            if one != two:
                return count
        return None

    def test_the_example(self):
        self.assertEqual(first_unlike_day(H, ABC, BAC, (1, 0, 0)), 1)
        self.assertIsNone(first_unlike_day(H, ABC, BAC, (0, 0, 0)))

    def test_an_order_and_itself(self):
        for hall in own.small_halls(many=1):
            for order in own.some_orders(hall[1], 2):
                for state in states_of(hall)[::3]:
                    self.assertIsNone(first_unlike_day(hall, order, order, state))

    def test_against_days(self):
        found = []
        for hall in list(own.small_halls()) + [LATER]:
            orders = own.some_orders(hall[1], 6)
            for order, other in zip(orders[:3], orders[3:]):
                for state in states_of(hall):
                    count = first_unlike_day(hall, order, other, state)
                    self.assertEqual(count, self.expected(hall, order, other, state))
                    found.append(count)
        for count in (None, 1, 2, 3):
            self.assertIn(count, found)

    def test_a_later_day_behind_like_ones(self):
        # a moves nothing yet: what d has comes to c on day 1, to b on day 2, to a on day 3 or on day 2
        order, other = ("a", "b", "c", "d"), ("b", "a", "c", "d")
        self.assertEqual(first_unlike_day(LATER, order, other, (0, 0, 0, 1)), 2)
        self.assertEqual(first_unlike_day(LATER, order, other, (0, 0, 1, 1)), 1)
        self.assertIsNone(first_unlike_day(LATER, order, other, (1, 1, 1, 1)))

    def test_many_like_days_ahead(self):
        order, other = DIGITS[::-1] + ("x", "y"), DIGITS[::-1] + ("y", "x")
        self.assertTrue(is_hall(WATCHED_COUNTER))
        self.assertEqual(first_unlike_day(WATCHED_COUNTER, order, other, (0,) * 7), 16)
        self.assertEqual(first_unlike_day(WATCHED_COUNTER, order, other, (0, 0, 1, 0, 0, 0, 0)), 15)
        self.assertEqual(first_unlike_day(WATCHED_COUNTER, other, order, (1, 1, 0, 0, 0, 0, 1)), 16)
        self.assertIsNone(first_unlike_day(WATCHED_COUNTER, order, ("e", "x", "d", "c", "y", "b", "a"), (0,) * 7))


if __name__ == "__main__":
    unittest.main()
