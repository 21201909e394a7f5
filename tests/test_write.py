"""Halls written as texts."""

import unittest

from eachinturn.halls import neighbours
from eachinturn.rows import read_hall, write_hall
from tests.helpers import EIGHT, EVERY_SORT, H, H_TEXT, PAIRS, THREE_STATES
from tests.test_tables import hall_around_mid, rules_for, web_around_mid


def written(rule, k=2):
    """The row of a rule of a place with one neighbour, b."""
    return write_hall((k, (("a", "b"), (("b", "a"),)), (rule, ("keep",)))).split("\n")[4]


class WriteHallTest(unittest.TestCase):
    def test_the_example(self):
        self.assertEqual(write_hall(H), H_TEXT)

    def test_every_sort(self):
        self.assertEqual(write_hall(EVERY_SORT).split("\n"), [
            "states 2",
            "place m", "place c", "place z9", "place a", "place k", "place x", "place lone",
            "road z9 c", "road k m", "road a z9", "road c m", "road x m",
            "rule table 0 1 1 0 1 0 0 1 1 1 0 0 1 0 1 0",
            "rule sum 0 1 1 / 1 0 1",
            "rule most 2", "rule copy z9", "rule least", "rule greatest", "rule odd",
        ])

    def test_three_states(self):
        self.assertEqual(write_hall(THREE_STATES).split("\n"), [
            "states 3",
            "place q", "place b", "place p1", "place a",
            "road b q", "road q a",
            "rule sum 0 1 2 0 1 / 2 2 1 0 0 / 1 0 2 1 1",
            "rule table 2 1 0 0 2 1 1 0 2",
            "rule sum 2 / 0 / 1",
            "rule keep",
        ])

    def test_each_rule(self):
        self.assertEqual(written(("table", (0, 1, 1, 0))), "rule table 0 1 1 0")
        self.assertEqual(written(("sum", ((0, 1), (1, 0)))), "rule sum 0 1 / 1 0")
        self.assertEqual(written(("sum", ((0, 1, 2), (1, 0, 2), (2, 2, 2))), 3), "rule sum 0 1 2 / 1 0 2 / 2 2 2")
        self.assertEqual(written(("copy", "b")), "rule copy b")
        for word in ("keep", "least", "greatest", "odd"):
            self.assertEqual(written((word,)), f"rule {word}")
        for n in range(10):
            self.assertEqual(written(("most", n)), f"rule most {n}")

    def test_the_smallest(self):
        self.assertEqual(write_hall((2, (("a",), ()), (("keep",),))), "states 2\nplace a\nrule keep")
        self.assertEqual(
            write_hall((3, (("a",), ()), (("table", (2, 1, 0)),))), "states 3\nplace a\nrule table 2 1 0",
        )

    def test_it_is_a_text(self):
        self.assertIs(type(write_hall(H)), str)


class ReadWhatIsWrittenTest(unittest.TestCase):
    def check(self, hall):
        self.assertEqual(read_hall(write_hall(hall)), hall)

    def test_the_examples(self):
        for hall in (H, EVERY_SORT, THREE_STATES):
            self.check(hall)

    def test_halls_with_each_sort_of_rule(self):
        for k, most in ((2, 7), (3, 4)):
            for d in range(most + 1):
                for rule in rules_for(k, neighbours(web_around_mid(d), "mid")):
                    self.check(hall_around_mid(k, d, rule))

    def test_many_places_and_roads(self):
        for many in range(1, 9):
            self.check((2, (EIGHT[:many], ()), (("odd",),) * many))
        for many in range(1, 6):
            self.check((3, (EIGHT[:many], ()), (("odd",),) * many))
        for many in range(15):
            self.check((2, (EIGHT, PAIRS[:many]), (("least",),) * 8))
        turned = tuple(pair[::-1] for pair in PAIRS[::-2])
        self.assertEqual(len(turned), 14)
        self.check((2, (EIGHT, turned), (("most", 9),) * 8))

    def test_names_that_are_words_of_rows(self):
        places = ("place", "road", "rule", "states", "table", "sum", "copy", "keep")
        roads = (("rule", "road"), ("copy", "table"), ("place", "states"), ("sum", "place"))
        rules = (("copy", "states"), ("copy", "rule"), ("odd",), ("copy", "place"), ("copy", "copy"), ("keep",),
                 ("copy", "table"), ("keep",))
        self.check((2, (places, roads), rules))

    def test_long_names(self):
        self.check((2, (("abcdefgh", "a1234567", "z"), (("z", "abcdefgh"),)), (("copy", "z"), ("odd",), ("keep",))))

    def test_kinds(self):
        k, (places, roads), rules = read_hall(write_hall(EVERY_SORT))
        self.assertIs(type(k), int)
        for thing in (read_hall(H_TEXT), read_hall(H_TEXT)[1], places, roads, rules) + roads + rules:
            self.assertIs(type(thing), tuple)
        self.assertEqual({type(state) for state in rules[0][1]}, {int})
        self.assertEqual([type(row) for row in rules[1][1]], [tuple, tuple])
        self.assertIs(type(rules[2][1]), int)


if __name__ == "__main__":
    unittest.main()
