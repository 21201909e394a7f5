"""Exchanges that lead from an order to an alike one, and what parts those that are not alike."""

import unittest

from eachinturn.alike import are_alike, exchanges, exchanges_hold, parting, parting_holds
from eachinturn.days import day
from eachinturn.halls import is_hall
from tests import own
from tests.helpers import EIGHT, WEB, Hostile, LikeAll, as_lists, never_right, put_in, replaced

# b has roads to all, the others to none but b
STAR = (("a", "b", "c", "d"), (("a", "b"), ("b", "c"), ("d", "b")))


def exchanged_by(web, order, indexes):
    """The order behind exchanges, None if one of them cannot be made."""
    for index in indexes:
        order = own.exchanged(web, order, index) if order is not None else None
    return order


class ExchangesTest(unittest.TestCase):
    def check(self, web, order, other):
        found = exchanges(web, order, other)
        if own.arrows_of(web, order) != own.arrows_of(web, other):
            self.assertIsNone(found)
        else:
            self.assertIs(type(found), list)
            self.assertEqual({type(index) for index in found} | {int}, {int})
            self.assertEqual(exchanged_by(web, order, found), other)
            self.assertIs(exchanges_hold(web, order, other, found), True)
        self.assertIs(exchanges_hold(web, order, other, None), False)

    def test_all_pairs_of_orders(self):
        for web in own.SMALL_WEBS.values():
            for order in own.orders_of(web):
                for other in own.orders_of(web):
                    self.check(web, order, other)
        for web in own.FIVE_WEBS.values():
            for order in own.orders_of(web)[::11]:
                for other in own.orders_of(web):
                    self.check(web, order, other)

    def test_like_orders(self):
        for web in own.WEBS.values():
            for order in own.orders_of(web)[::5]:
                self.assertEqual(exchanges(web, order, order), [])
                self.assertIs(exchanges_hold(web, order, order, []), True)

    def test_eight_places(self):
        for web in own.EIGHT_WEBS:
            for order, other in zip(own.some_orders(web, 30), own.some_orders(web, 30, seed=8)):
                self.check(web, order, other)
        self.check(own.EIGHT_WITHOUT, EIGHT, EIGHT[::-1])
        orders = alike_to(own.EIGHT_WITH_FEW, EIGHT)
        self.assertGreater(len(orders), 100)
        for order in orders[::7]:
            self.check(own.EIGHT_WITH_FEW, orders[-1], order)


def alike_to(web, order):
    return [other for other in own.orders_of(web) if own.arrows_of(web, other) == own.arrows_of(web, order)]


class ExchangesHoldTest(unittest.TestCase):
    def test_against_carrying_them_out(self):
        order = ("a", "c", "d", "b")
        lists = [[]] + [[one] for one in range(-5, 6)] + [[one, two] for one in range(-2, 5) for two in range(-2, 5)]
        for web in (STAR, (STAR[0], ()), own.R):
            for start in (order, order[::-1]):
                for other in own.orders_of(web):
                    for indexes in lists:
                        right = exchanged_by(web, start, indexes) == other
                        self.assertIs(exchanges_hold(web, start, other, indexes), right, (web, start, other, indexes))

    def test_what_holds(self):
        self.assertIs(exchanges_hold(STAR, ("a", "c", "d", "b"), ("c", "d", "a", "b"), [0, 1]), True)
        # a longer one holds, too
        self.assertIs(exchanges_hold(STAR, ("a", "c", "d", "b"), ("c", "d", "a", "b"), [0, 0, 1, 1] * 50 + [0, 1]), True)

    def test_indexes_out_of_bounds(self):
        order = ("a", "c", "d", "b")
        for index in (-1, -2, -3, -4, 3, 4, 10 ** 59):
            for indexes in ([index], [0, 0, index], [index, 0, 0], [index, index]):
                self.assertIs(exchanges_hold(STAR, order, order, indexes), False)
                self.assertIs(exchanges_hold((STAR[0], ()), order, order, indexes), False)

    def test_truths_are_no_indexes(self):
        order = ("a", "c", "d", "b")
        self.assertIs(exchanges_hold(STAR, order, ("c", "a", "d", "b"), [0]), True)
        self.assertIs(exchanges_hold(STAR, order, ("c", "a", "d", "b"), [False]), False)
        self.assertIs(exchanges_hold(STAR, order, ("a", "d", "c", "b"), [1]), True)
        self.assertIs(exchanges_hold(STAR, order, ("a", "d", "c", "b"), [True]), False)

    def test_a_road_between(self):
        self.assertIs(exchanges_hold(WEB, ("a", "b", "c"), ("b", "a", "c"), [0]), False)
        self.assertIs(exchanges_hold(WEB, ("a", "b", "c"), ("a", "b", "c"), [0, 0]), False)
        self.assertIs(exchanges_hold(WEB, ("c", "b", "a"), ("c", "b", "a"), [1, 1]), False)

    def test_what_is_no_list(self):
        order, other = ("a", "c", "d", "b"), ("c", "a", "d", "b")
        for thing in ((0,), {0}, {0: 0}, "0", 0, range(1), iter([0]), frozenset([0]), [[0]], [(0,)], ["0"], [None]):
            self.assertIs(exchanges_hold(STAR, order, other, thing), False)
        self.assertIs(exchanges_hold(STAR, order, order, ()), False)

    def test_what_leads_elsewhere(self):
        order = ("a", "c", "d", "b")
        for indexes in ([], [1], [0, 1], [1, 0], [0, 0]):
            self.assertIs(exchanges_hold(STAR, order, ("c", "a", "d", "b"), indexes), False)

    def test_any_object(self):
        order = ("a", "b", "c")
        for thing in never_right():
            if not isinstance(thing, list) or len(thing) > 0:
                self.assertIs(exchanges_hold(WEB, order, order, thing), False)
            self.assertIs(exchanges_hold(WEB, order, ("a", "c", "b"), thing), False)
            self.assertIs(exchanges_hold(WEB, order, order, [thing]), False)


class PartingTest(unittest.TestCase):
    def check(self, web, order, other):
        found = parting(web, order, other)
        self.assertIs(found is None, own.arrows_of(web, order) == own.arrows_of(web, other))
        self.assertIs(parting_holds(web, order, other, None), False)
        self.assertIs(parting_holds(web, order, other, found), found is not None)
        if found is not None:
            rules, state = found
            hall = (2, web, rules)
            self.assertTrue(is_hall(hall))
            self.assertLessEqual({rule[0] for rule in rules}, {"keep", "copy"})
            self.assertNotEqual(own.day_of(hall, order, state), own.day_of(hall, other, state))
            self.assertNotEqual(day(hall, order, state), day(hall, other, state))
            self.assertEqual([type(part) for part in (found, rules, state)], [tuple] * 3)

    def test_all_pairs_of_orders(self):
        for web in own.SMALL_WEBS.values():
            for order in own.orders_of(web):
                for other in own.orders_of(web):
                    self.check(web, order, other)

    def test_eight_places(self):
        for web in own.EIGHT_WEBS:
            for order, other in zip(own.some_orders(web, 12), own.some_orders(web, 12, seed=8)):
                self.check(web, order, other)
                self.check(web, order, order)


class PartingHoldsTest(unittest.TestCase):
    ORDER, OTHER = ("a", "b", "c"), ("b", "a", "c")

    def holds(self, rules, state, order=ORDER, other=OTHER):
        return parting_holds(WEB, order, other, (rules, state))

    def test_against_the_days_of_all_halls_of_these_sorts(self):
        sorts = [[("keep",), ("copy", "b")], [("keep",), ("copy", "a"), ("copy", "c")], [("keep",), ("copy", "b")]]
        found = set()
        for order in own.orders_of(WEB):
            for other in own.orders_of(WEB):
                for rules in [(one, two, three) for one in sorts[0] for two in sorts[1] for three in sorts[2]]:
                    hall = (2, WEB, rules)
                    for state in own.states_of(hall):
                        expected = own.day_of(hall, order, state) != own.day_of(hall, other, state)
                        self.assertIs(self.holds(rules, state, order, other), expected)
                        found.add((expected, are_alike(WEB, order, other)))
        self.assertEqual(found, {(True, False), (False, False), (False, True)})

    def test_rules_of_other_sorts(self):
        rules, state = (("copy", "b"), ("copy", "a"), ("keep",)), (1, 0, 0)
        self.assertIs(self.holds(rules, state), True)
        for other in (
            ("odd",), ("least",), ("greatest",), ("most", 0), ("most", 1), ("table", (0, 1, 0, 1)),
            ("table", (0, 0, 1, 1)), ("sum", ((0, 1), (0, 1))), ("keep", None), ("copy",), ("copy", "d"),
            ("copy", "c"), ["keep"], ("copy", ["b"]), (), None, "keep",
        ):
            self.assertIs(self.holds((other,) + rules[1:], state), False, other)
            self.assertIs(self.holds(rules[:2] + (other,), state), False, other)

    def test_rules_that_part_but_are_of_other_sorts(self):
        hall = (2, WEB, (("odd",), ("odd",), ("keep",)))
        self.assertNotEqual(day(hall, self.ORDER, (1, 0, 0)), day(hall, self.OTHER, (1, 0, 0)))
        self.assertIs(self.holds(hall[2], (1, 0, 0)), False)

    def test_three_states_are_none(self):
        self.assertIs(self.holds((("copy", "b"), ("copy", "a"), ("keep",)), (2, 0, 0)), False)
        self.assertIs(self.holds((("copy", "b"), ("copy", "a"), ("keep",)), (1, 0, 2)), False)

    def test_any_object(self):
        paper = ((("copy", "b"), ("copy", "a"), ("keep",)), (1, 0, 0))
        self.assertIs(parting_holds(WEB, self.ORDER, self.OTHER, paper), True)
        wrong = never_right() + list(as_lists(paper)) + list(put_in(paper, None)) + [paper[0], paper[:1], paper[::-1]]
        for instead in (None, True, False, 10 ** 59, Hostile(), LikeAll(), "c", "odd", (), [], -1):
            wrong.extend(replaced(paper, instead))
        for thing in wrong:
            self.assertIs(parting_holds(WEB, self.ORDER, self.OTHER, thing), False, thing)
            self.assertIs(parting_holds(WEB, self.ORDER, self.ORDER, thing), False, thing)

    def test_truths_are_no_states(self):
        rules = (("copy", "b"), ("copy", "a"), ("keep",))
        for state in ((True, 0, 0), (1, False, 0), (1, 0, False), (True, False, False)):
            self.assertIs(self.holds(rules, state), False)


if __name__ == "__main__":
    unittest.main()
