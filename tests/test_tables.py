"""The rules as tables."""

import itertools
import unittest

from eachinturn.halls import is_hall, neighbours, table_of, with_tables
from tests.helpers import EIGHT, EVERY_SORT, H, THREE_STATES, WEB

# Places in a sequence that is neither that of the roads nor that of the texts.
PLACES = ("e", "h", "mid", "b", "g", "a", "f", "c")


def web_around_mid(d):
    """A web in which mid has d neighbours, with roads in no sequence and both directions, and one road more."""
    around = [place for place in PLACES if place != "mid"][:d]
    roads = [(place, "mid") if at % 2 else ("mid", place) for at, place in enumerate(around)][::-1]
    if d >= 2:
        roads.insert(1, (around[1], around[0]))
    places = tuple(place for place in PLACES if place == "mid" or place in around)
    return (places, tuple(roads))


def hall_around_mid(k, d, rule):
    web = web_around_mid(d)
    return (k, web, tuple(rule if place == "mid" else ("keep",) for place in web[0]))


def told(k, rule, around, own, states):
    """What a rule tells, as point 5 says it; around are the neighbours, states theirs."""
    word = rule[0]
    if word == "table":
        return rule[1][own + sum(state * k ** (at + 1) for at, state in enumerate(states))]
    if word == "sum":
        return rule[1][own][sum(states)]
    if word == "copy":
        return dict(zip(around, states))[rule[1]]
    if word == "most":
        return 1 if sum(1 for state in states if state) >= rule[1] else 0
    values = [own] + list(states)
    return {"keep": own, "least": sorted(values)[0], "greatest": sorted(values)[-1], "odd": sum(values) % k}[word]


def expected_table(k, rule, around):
    table = [None] * k ** (len(around) + 1)
    for own in range(k):
        for states in itertools.product(range(k), repeat=len(around)):
            index = own
            for at, state in enumerate(states):
                index += k ** (at + 1) * state
            table[index] = told(k, rule, around, own, states)
    return tuple(table)


def rules_for(k, around):
    d = len(around)
    yield from [(word,) for word in ("keep", "least", "greatest", "odd")]
    yield from [("most", n) for n in range(10)]
    yield from [("copy", place) for place in around]
    for seed in (0, 1, 2):
        yield ("table", tuple((at * at // 3 + seed * at + at // 7) % k for at in range(k ** (d + 1))))
        yield ("sum", tuple(
            tuple((at * at + own * (at + 1) + seed) % k for at in range(d * (k - 1) + 1)) for own in range(k)
        ))


class TableOfTest(unittest.TestCase):
    def test_the_example(self):
        self.assertEqual(table_of(H, "b"), (0, 1, 1, 0, 1, 0, 0, 1))
        self.assertEqual(table_of(H, "a"), (0, 0, 1, 1))
        self.assertEqual(table_of(H, "c"), (0, 0, 1, 1))

    def check(self, k, d):
        around = neighbours(web_around_mid(d), "mid")
        self.assertEqual(len(around), d)
        for rule in rules_for(k, around):
            hall = hall_around_mid(k, d, rule)
            self.assertTrue(is_hall(hall))
            table = table_of(hall, "mid")
            self.assertEqual(table, expected_table(k, rule, around), (k, d, rule))
            self.assertIs(type(table), tuple)
            self.assertEqual({type(state) for state in table}, {int})

    def test_two_states(self):
        for d in range(8):
            self.check(2, d)

    def test_three_states(self):
        for d in range(5):
            self.check(3, d)

    def test_tables_written_out(self):
        two = (2, (("a", "b"), (("b", "a"),)), None)
        three = (3, (("a", "b"), (("b", "a"),)), None)
        for hall, rule, table in (
            (two, ("keep",), (0, 1, 0, 1)),
            (two, ("least",), (0, 0, 0, 1)),
            (two, ("greatest",), (0, 1, 1, 1)),
            (two, ("odd",), (0, 1, 1, 0)),
            (two, ("most", 0), (1, 1, 1, 1)),
            (two, ("most", 1), (0, 0, 1, 1)),
            (two, ("most", 2), (0, 0, 0, 0)),
            (two, ("copy", "b"), (0, 0, 1, 1)),
            (two, ("sum", ((0, 1), (1, 1))), (0, 1, 1, 1)),
            (two, ("sum", ((1, 0), (0, 0))), (1, 0, 0, 0)),
            (two, ("table", (1, 0, 0, 0)), (1, 0, 0, 0)),
            (three, ("keep",), (0, 1, 2, 0, 1, 2, 0, 1, 2)),
            (three, ("least",), (0, 0, 0, 0, 1, 1, 0, 1, 2)),
            (three, ("greatest",), (0, 1, 2, 1, 1, 2, 2, 2, 2)),
            (three, ("odd",), (0, 1, 2, 1, 2, 0, 2, 0, 1)),
            (three, ("most", 1), (0, 0, 0, 1, 1, 1, 1, 1, 1)),
            (three, ("copy", "b"), (0, 0, 0, 1, 1, 1, 2, 2, 2)),
            (three, ("sum", ((0, 1, 2), (2, 0, 1), (1, 1, 0))), (0, 2, 1, 1, 0, 1, 2, 1, 0)),
        ):
            self.assertEqual(table_of((hall[0], hall[1], (rule, ("keep",))), "a"), table, rule)

    def test_places_without_neighbours(self):
        for rule, two, three in (
            (("keep",), (0, 1), (0, 1, 2)),
            (("least",), (0, 1), (0, 1, 2)),
            (("greatest",), (0, 1), (0, 1, 2)),
            (("odd",), (0, 1), (0, 1, 2)),
            (("most", 0), (1, 1), (1, 1, 1)),
            (("most", 1), (0, 0), (0, 0, 0)),
        ):
            self.assertEqual(table_of((2, (("a",), ()), (rule,)), "a"), two)
            self.assertEqual(table_of((3, (("a",), ()), (rule,)), "a"), three)
        self.assertEqual(table_of((2, (("a",), ()), (("sum", ((1,), (0,))),)), "a"), (1, 0))
        self.assertEqual(table_of((3, (("a",), ()), (("sum", ((1,), (2,), (0,))),)), "a"), (1, 2, 0))

    def test_the_first_neighbour_is_that_of_the_least_number(self):
        web = (("z", "m", "a"), (("m", "a"), ("z", "m")))
        self.assertEqual(table_of((2, web, (("keep",), ("copy", "z"), ("keep",))), "m"), (0, 0, 1, 1, 0, 0, 1, 1))
        self.assertEqual(table_of((2, web, (("keep",), ("copy", "a"), ("keep",))), "m"), (0, 0, 0, 0, 1, 1, 1, 1))

    def test_the_place_that_is_asked_for(self):
        for hall in (EVERY_SORT, THREE_STATES):
            k, web, rules = hall
            for place, rule in zip(web[0], rules):
                self.assertEqual(table_of(hall, place), expected_table(k, rule, neighbours(web, place)))


class WithTablesTest(unittest.TestCase):
    def test_the_example(self):
        tables = (("table", (0, 0, 1, 1)), ("table", (0, 1, 1, 0, 1, 0, 0, 1)), ("table", (0, 0, 1, 1)))
        self.assertEqual(with_tables(H), (2, WEB, tables))

    def test_each_sort(self):
        for hall in (EVERY_SORT, THREE_STATES, (2, (EIGHT, ()), (("odd",),) * 8)):
            k, web, _ = hall
            expected = (k, web, tuple(("table", table_of(hall, place)) for place in web[0]))
            self.assertEqual(with_tables(hall), expected)
            self.assertTrue(is_hall(with_tables(hall)))

    def test_tables_stay_what_they_are(self):
        for hall in (H, EVERY_SORT, THREE_STATES):
            self.assertEqual(with_tables(with_tables(hall)), with_tables(hall))

    def test_tuples_all_the_way(self):
        found = with_tables(H)
        self.assertIs(type(found), tuple)
        self.assertIs(type(found[2]), tuple)
        self.assertEqual({type(rule) for rule in found[2]} | {type(rule[1]) for rule in found[2]}, {tuple})


if __name__ == "__main__":
    unittest.main()
