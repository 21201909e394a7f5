"""What is a hall and what is none."""

import unittest

from eachinturn.halls import is_hall
from tests.helpers import (
    EIGHT, EVERY_SORT, H, PAIRS, THREE_STATES, WEB, Hostile, LikeAll, as_lists, never_right, odd_objects, put_in,
    replaced,
)

BARE = ("keep", "least", "greatest", "odd")
SORTS = BARE + ("table", "sum", "most", "copy")


def star(d):
    """A web in which the first place has d neighbours, those that follow it."""
    return (EIGHT[:d + 1], PAIRS[:d])


def with_rule(rule, k=2, d=2):
    """What is a hall if this is a rule of a place with d neighbours."""
    web = star(d)
    return (k, web, (rule,) + (("keep",),) * d)


class HallTest(unittest.TestCase):
    def assert_hall(self, thing):
        self.assertIs(is_hall(thing), True, thing)

    def assert_none(self, thing):
        self.assertIs(is_hall(thing), False)

    def assert_rule(self, rule, k=2, d=2):
        self.assertIs(is_hall(with_rule(rule, k, d)), True, (rule, k, d))

    def assert_no_rule(self, rule, k=2, d=2):
        self.assertIs(is_hall(with_rule(rule, k, d)), False)


class IsHallTest(HallTest):
    def test_halls(self):
        self.assert_hall(H)
        self.assert_hall(EVERY_SORT)
        self.assert_hall(THREE_STATES)
        self.assert_hall((2, (("a",), ()), (("keep",),)))

    def test_any_object_is_answered(self):
        for thing in odd_objects() + [WEB]:
            self.assert_none(thing)

    def test_anything_that_is_never_right_at_every_depth(self):
        for hall in (H, EVERY_SORT, THREE_STATES):
            for instead in never_right():
                for thing in replaced(hall, instead):
                    self.assert_none(thing)
                for thing in put_in(hall, instead):
                    self.assert_none(thing)

    def test_lists_for_tuples_at_every_depth(self):
        for hall in (H, EVERY_SORT, THREE_STATES):
            for thing in as_lists(hall):
                self.assert_none(thing)

    def test_triples_alone(self):
        self.assert_none((2, WEB))
        self.assert_none((2,))
        self.assert_none(())
        self.assert_none(H + ((),))
        self.assert_none(H + (("keep",),))
        self.assert_none([2, WEB, H[2]])
        self.assert_none({2: WEB})

    def test_k(self):
        for k in (2, 3):
            self.assert_hall((k, WEB, (("keep",),) * 3))
        for k in (-3, -2, -1, 0, 1, 4, 5, 10, 10 ** 59, "2", True, False, None, (2,), [2], b"2", Hostile(), LikeAll()):
            self.assert_none((k, WEB, (("keep",),) * 3))

    def test_webs_that_are_none(self):
        self.assert_none((2, (("a", "a"), ()), (("keep",),) * 2))
        self.assert_none((2, (("a", "b"), (("a", "b"), ("b", "a"))), (("keep",),) * 2))
        self.assert_none((2, ((), ()), ()))
        self.assert_none((2, (EIGHT, PAIRS[:15]), (("keep",),) * 8))
        self.assert_hall((2, (EIGHT, PAIRS[:14]), (("keep",),) * 8))

    def test_how_many_states_two(self):
        for many in range(1, 9):
            self.assert_hall((2, (EIGHT[:many], ()), (("keep",),) * many))
        self.assert_none((2, (EIGHT + ("i",), ()), (("keep",),) * 9))

    def test_how_many_states_three(self):
        for many in range(1, 6):
            self.assert_hall((3, (EIGHT[:many], ()), (("keep",),) * many))
        for many in (6, 7, 8):
            self.assert_none((3, (EIGHT[:many], ()), (("keep",),) * many))
            self.assert_hall((2, (EIGHT[:many], ()), (("keep",),) * many))

    def test_as_many_rules_as_places(self):
        for many in range(6):
            self.assertIs(is_hall((2, WEB, (("keep",),) * many)), many == 3)
        self.assert_none((2, WEB, ("keep",)))
        self.assert_none((2, WEB, ("keep", "keep", "keep")))
        self.assert_none((2, WEB, {0: ("keep",), 1: ("keep",), 2: ("keep",)}))

    def test_rules_belong_to_the_places_in_their_sequence(self):
        web = (("c", "a", "b"), (("a", "b"),))
        self.assert_hall((2, web, (("table", (0, 1)), ("copy", "b"), ("table", (0, 1, 1, 0)))))
        self.assert_none((2, web, (("copy", "b"), ("table", (0, 1)), ("table", (0, 1, 1, 0)))))
        self.assert_none((2, web, (("table", (0, 1)), ("table", (0, 1, 1, 0)), ("copy", "b"))))

    def test_each_rule_is_looked_at(self):
        for at in range(3):
            rules = [("keep",), ("odd",), ("least",)]
            rules[at] = ("none",)
            self.assert_none((2, WEB, tuple(rules)))

    def test_by_name(self):
        self.assertIs(is_hall(thing=H), True)
        self.assertIs(is_hall(thing=WEB), False)


class BareRuleTest(HallTest):
    def test_alone(self):
        for sort in BARE:
            for k, d in ((2, 0), (2, 1), (2, 7), (3, 0), (3, 4)):
                self.assert_rule((sort,), k, d)

    def test_with_a_word_too_many(self):
        for sort in BARE:
            for more in (None, 0, 1, "b", "", (), (0, 1), "keep"):
                self.assert_no_rule((sort, more))
            self.assert_no_rule((sort, "b", "c"))

    def test_not_in_a_tuple(self):
        for sort in SORTS:
            self.assert_no_rule(sort)
            self.assert_no_rule([sort])
            self.assert_no_rule(((sort,),))
            self.assert_no_rule({sort: 1})


class UnknownRuleTest(HallTest):
    def test_unknown_sorts(self):
        for sort in ("", "Keep", "keeps", "kee", "min", "max", "even", "least ", " odd", "oddx", "k", "keep\n"):
            self.assert_no_rule((sort,))
            self.assert_no_rule((sort, 1))
            self.assert_no_rule((sort, "b"))
            self.assert_no_rule((sort, (0, 1, 0, 1, 0, 1, 0, 1)))
            self.assert_no_rule((sort, ((0, 0, 0), (0, 0, 0))))

    def test_sorts_that_are_no_texts(self):
        for sort in (None, True, False, 0, 1, b"keep", (), ("keep",), [], ["keep"], {}, set(), Hostile(), LikeAll()):
            self.assert_no_rule((sort,))
            self.assert_no_rule((sort, "b"))
            self.assert_no_rule((sort, 1))
            self.assert_no_rule((sort, (0,) * 8))

    def test_no_words(self):
        self.assert_no_rule(())

    def test_a_word_too_few(self):
        for sort in ("table", "sum", "most", "copy"):
            self.assert_no_rule((sort,))


class TableRuleTest(HallTest):
    def test_lengths_with_two_states(self):
        for d in range(8):
            self.assert_rule(("table", (0, 1) * 2 ** d), 2, d)
            self.assert_no_rule(("table", ((0, 1) * 2 ** d)[1:]), 2, d)
            self.assert_no_rule(("table", (0, 1) * 2 ** d + (0,)), 2, d)
            self.assert_no_rule(("table", (0, 1) * 2 ** (d + 1)), 2, d)
            self.assert_no_rule(("table", (0,) * 2 ** d), 2, d)

    def test_lengths_with_three_states(self):
        for d in range(5):
            self.assert_rule(("table", (0, 1, 2) * 3 ** d), 3, d)
            self.assert_no_rule(("table", ((0, 1, 2) * 3 ** d)[1:]), 3, d)
            self.assert_no_rule(("table", (0, 1, 2) * 3 ** d + (2,)), 3, d)
            self.assert_no_rule(("table", (0,) * 2 ** (d + 1)), 3, d)

    def test_states(self):
        for at in range(8):
            for state in (2, 3, -1, True, False, None, "0", "", (), (0,), [0], b"0", 10 ** 59, Hostile(), LikeAll()):
                table = (0, 1, 1, 0, 1, 0, 0, 1)
                self.assert_no_rule(("table", table[:at] + (state,) + table[at + 1:]))
        self.assert_rule(("table", (0, 2, 0, 0, 1, 0, 0, 0, 2)), 3, 1)
        self.assert_no_rule(("table", (0, 2, 0, 0, 3, 0, 0, 0, 2)), 3, 1)
        self.assert_no_rule(("table", (0, 2, 0, 0, -1, 0, 0, 0, 2)), 3, 1)

    def test_no_tuple(self):
        for table in ([0] * 8, "00000000", 0, None, {0: 0}, (), ((0,) * 8,), range(8), bytes(8), Hostile(), LikeAll()):
            self.assert_no_rule(("table", table))

    def test_words_too_many(self):
        self.assert_no_rule(("table", (0,) * 8, (0,) * 8))
        self.assert_no_rule(("table", (0,) * 8, None))
        self.assert_no_rule(("table",) + (0,) * 8)


class SumRuleTest(HallTest):
    def test_lengths(self):
        for k, most in ((2, 7), (3, 4)):
            for d in range(most + 1):
                row = (k - 1,) * (d * (k - 1) + 1)
                self.assert_rule(("sum", (row,) * k), k, d)
                self.assert_no_rule(("sum", (row,) * (k - 1)), k, d)
                self.assert_no_rule(("sum", (row,) * (k + 1)), k, d)
                for at in range(k):
                    for other in (row[1:], row + (0,), (), row + row, list(row), 0, None):
                        rows = [row] * k
                        rows[at] = other
                        self.assert_no_rule(("sum", tuple(rows)), k, d)

    def test_states(self):
        rows = ((0, 1, 2, 0, 1), (2, 2, 1, 0, 0), (1, 0, 2, 1, 1))
        self.assert_rule(("sum", rows), 3, 2)
        for own in range(3):
            for at in range(5):
                for state in (3, -1, True, False, None, "0", (0,), [0], Hostile(), LikeAll()):
                    row = rows[own][:at] + (state,) + rows[own][at + 1:]
                    self.assert_no_rule(("sum", rows[:own] + (row,) + rows[own + 1:]), 3, 2)
        self.assert_no_rule(("sum", ((0, 0, 0), (0, 2, 0))), 2, 2)

    def test_no_tuple(self):
        row = (0, 1, 0)
        for rows in ([row, row], (row, list(row)), (list(row), row), "010010", {0: row, 1: row}, None, 0, row, ()):
            self.assert_no_rule(("sum", rows))

    def test_words_too_many(self):
        self.assert_no_rule(("sum", (0, 1, 0), (0, 1, 0)))
        self.assert_no_rule(("sum", ((0, 1, 0), (0, 1, 0)), 0))


class MostRuleTest(HallTest):
    def test_numbers(self):
        for n in range(10):
            for k, d in ((2, 0), (2, 1), (2, 2), (3, 4)):
                self.assert_rule(("most", n), k, d)

    def test_what_is_no_number_of_it(self):
        wrong = (-1, -9, 10, 11, 10 ** 59, -10 ** 59, True, False, None, "1", "", (1,), [1], b"1", Hostile(), LikeAll())
        for n in wrong:
            for d in (0, 2):
                self.assert_no_rule(("most", n), 2, d)

    def test_words_too_many(self):
        self.assert_no_rule(("most", 1, 1))
        self.assert_no_rule(("most", 1, None))


class CopyRuleTest(HallTest):
    def test_a_neighbour(self):
        self.assert_rule(("copy", "b"))
        self.assert_rule(("copy", "c"))
        self.assert_rule(("copy", "h"), 2, 7)

    def test_no_neighbour(self):
        for place in ("a", "d", "x", "", "B", None, True, 0, 1, ("b",), ["b"], b"b", "bc", Hostile(), LikeAll()):
            self.assert_no_rule(("copy", place))

    def test_a_place_that_has_no_road_to_it(self):
        self.assert_none((2, WEB, (("copy", "c"), ("keep",), ("keep",))))
        self.assert_hall((2, WEB, (("copy", "b"), ("keep",), ("keep",))))
        self.assert_hall((2, WEB, (("keep",), ("copy", "a"), ("copy", "b"))))

    def test_of_a_place_without_a_road(self):
        web = (("a", "b", "c"), (("b", "c"),))
        for place in ("a", "b", "c", "", None):
            self.assert_none((2, web, (("copy", place), ("keep",), ("keep",))))

    def test_words_too_many(self):
        self.assert_no_rule(("copy", "b", "c"))
        self.assert_no_rule(("copy", "b", None))
        self.assert_no_rule(("copy", ("b", "c")))


if __name__ == "__main__":
    unittest.main()
