"""Texts that are no halls: which word is the first that does not fit."""

import unittest

from eachinturn.errors import BadRows
from eachinturn.halls import is_hall
from eachinturn.rows import read_hall, write_hall
from tests.helpers import EIGHT, EVERY_SORT, H, H_TEXT, PAIRS, THREE_STATES, Hostile, LikeAll, never_right
from tests.oracle import first_misfit

WORDS = [
    "", "states", "place", "road", "rule", "table", "sum", "keep", "least", "greatest", "odd", "most", "copy",
    "/", "//", "0", "1", "2", "3", "9", "10", "00", "01", "-1", "+1", "1/", "a", "b", "z9", "mm", "B", "abcdefgh",
    "abcdefghi", "9a", "a_", "a\t", "\t", "1\t", "Keep",
]


def fault_of(text):
    """Where read_hall finds the first word that does not fit; None if it gives a hall."""
    try:
        read_hall(text)
    except BadRows as error:
        return (error.row, error.word)
    return None


def rows_of(k=2, places=("a", "b"), roads=("a b",), rules=("keep", "keep")):
    rows = [f"states {k}"]
    rows += [f"place {place}" for place in places]
    rows += [f"road {road}" for road in roads]
    rows += [f"rule {rule}" for rule in rules]
    return "\n".join(rows)


class ReadTest(unittest.TestCase):
    def assert_fault(self, text, row, word):
        self.assertEqual(fault_of(text), (row, word), text)

    def assert_rule_fault(self, rule, word, k=2):
        """a has the neighbours b and c; its rule stands in row 6, with words from 2 on."""
        self.assert_fault(rows_of(k, "abc", ("a b", "c a"), (rule, "keep", "keep")), 6, word)

    def assert_lone_fault(self, rule, word, k=2):
        """a has no neighbours; its rule stands in row 2."""
        self.assert_fault(rows_of(k, "a", (), (rule,)), 2, word)


class WhatIsNoTextTest(ReadTest):
    def test_it_is_wrong_at_the_very_start(self):
        for thing in never_right() + [0, 1, H, H_TEXT.encode(), [H_TEXT], (H_TEXT,), H_TEXT.split("\n"), Hostile()]:
            if not isinstance(thing, str):
                self.assert_fault(thing, 0, 0)

    def test_nothing_else_is_raised(self):
        for thing in (None, True, 2, LikeAll(), Hostile(), b"states 2"):
            with self.assertRaises(BadRows):
                read_hall(thing)


class StatesRowTest(ReadTest):
    def test_the_empty_text(self):
        self.assert_fault("", 0, 0)
        self.assert_fault("\n", 0, 0)
        self.assert_fault(" ", 0, 0)

    def test_the_first_word(self):
        for word in ("state", "States", "place", "2", "road", "rule", "states\t", "statess", ""):
            self.assert_fault(f"{word} 2\nplace a\nrule keep", 0, 0)
        self.assert_fault(" states 2\nplace a\nrule keep", 0, 0)
        self.assert_fault("\n" + H_TEXT, 0, 0)

    def test_the_number(self):
        for word in ("0", "1", "4", "02", "22", "-2", "+2", "2.", "", "two", "2\t", "23", "/"):
            self.assert_fault(f"states {word}\nplace a\nrule keep", 0, 1)
        self.assert_fault("states  2\nplace a\nrule keep", 0, 1)

    def test_it_ends_too_early_or_late(self):
        self.assert_fault("states", 0, 1)
        self.assert_fault("states\nplace a\nrule keep", 0, 1)
        self.assert_fault("states 2 ", 0, 2)
        self.assert_fault("states 2 2\nplace a\nrule keep", 0, 2)
        self.assert_fault("states 2 place a", 0, 2)

    def test_the_text_ends_behind_it(self):
        self.assert_fault("states 2", 1, 0)
        self.assert_fault("states 3", 1, 0)
        self.assert_fault("states 2\n", 1, 0)


class PlaceRowTest(ReadTest):
    def test_one_must_come(self):
        for row in ("road a b", "rule keep", "states 2", "", " ", "place", "places a", "Place a", " place a"):
            self.assert_fault(f"states 2\n{row}\nrule keep", 1, 1 if row == "place" else 0)

    def test_the_name(self):
        for name in ("", "abcdefghi", "1a", "9", "A", "aB", "a_", "a\t", "/", "-", "a-"):
            self.assert_fault(f"states 2\nplace {name}\nrule keep", 1, 1)
            self.assert_fault(f"states 2\nplace b\nplace {name}\nrule keep\nrule keep", 2, 1)
        self.assertIsNone(fault_of("states 2\nplace abcdefgh\nrule keep"))

    def test_a_name_twice(self):
        self.assert_fault("states 2\nplace a\nplace a\nrule keep\nrule keep", 2, 1)
        self.assert_fault("states 2\nplace a\nplace b\nplace a\nrule keep\nrule keep\nrule keep", 3, 1)

    def test_it_ends_too_early_or_late(self):
        self.assert_fault("states 2\nplace", 1, 1)
        self.assert_fault("states 2\nplace a\nplace\nrule keep", 2, 1)
        self.assert_fault("states 2\nplace a b\nrule keep", 1, 2)
        self.assert_fault("states 2\nplace a \nrule keep", 1, 2)
        self.assert_fault("states 2\nplace  a\nrule keep", 1, 1)

    def test_a_ninth(self):
        self.assertIsNone(fault_of(rows_of(2, EIGHT, (), ("keep",) * 8)))
        self.assert_fault(rows_of(2, EIGHT + ("i",), (), ("keep",) * 9), 9, 0)
        self.assert_fault(rows_of(2, EIGHT + ("A b",), (), ("keep",) * 9), 9, 0)
        self.assert_fault(rows_of(2, EIGHT + ("a",), (), ("keep",) * 9), 9, 0)
        self.assert_fault(rows_of(2, EIGHT, (), ()) + "\nplace", 9, 0)

    def test_a_sixth_with_three_states(self):
        self.assertIsNone(fault_of(rows_of(3, EIGHT[:5], (), ("keep",) * 5)))
        self.assertIsNone(fault_of(rows_of(2, EIGHT[:6], (), ("keep",) * 6)))
        self.assert_fault(rows_of(3, EIGHT[:6], (), ("keep",) * 6), 6, 0)
        self.assert_fault(rows_of(3, EIGHT[:7], (), ("keep",) * 7), 6, 0)
        self.assert_fault(rows_of(3, EIGHT[:5] + ("a",), (), ("keep",) * 6), 6, 0)

    def test_the_text_ends_behind_them(self):
        self.assert_fault("states 2\nplace a", 2, 0)
        self.assert_fault("states 2\nplace a\nplace b", 3, 0)
        self.assert_fault(rows_of(2, EIGHT, (), ()), 9, 0)

    def test_behind_roads_and_rules(self):
        self.assert_fault("states 2\nplace a\nplace b\nroad a b\nplace c\nrule keep\nrule keep\nrule keep", 4, 0)
        self.assert_fault("states 2\nplace a\nrule keep\nplace b\nrule keep", 3, 0)
        self.assert_fault("states 2\nplace a\nplace b\nrule keep\nplace c", 4, 0)


class RoadRowTest(ReadTest):
    def check(self, road, word):
        """A road that stands in row 5, behind the road a b."""
        self.assert_fault(rows_of(2, "abc", ("a b", road), ("keep",) * 3), 5, word)

    def test_the_first_place(self):
        for place in ("d", "", "A", "ab", "0", "/", "road", "a\t"):
            self.check(f"{place} c", 1)
        self.check(" a c", 1)

    def test_the_second_place(self):
        for place in ("d", "", "A", "ab", "0", "/", "road", "c\t"):
            self.check(f"a {place}", 2)
        self.check("a  c", 2)

    def test_a_road_twice(self):
        self.check("a b", 2)
        self.check("b a", 2)
        self.assert_fault(rows_of(2, "abc", ("b a", "c b", "a b"), ("keep",) * 3), 6, 2)
        self.assert_fault(rows_of(2, "abc", ("b a", "c b", "b c"), ("keep",) * 3), 6, 2)
        self.assert_fault(rows_of(2, "abc", ("b a", "c b", "c b"), ("keep",) * 3), 6, 2)

    def test_a_road_from_a_place_to_itself(self):
        self.check("a a", 2)
        self.check("c c", 2)
        self.assert_fault(rows_of(2, "a", ("a a",), ("keep",)), 2, 2)

    def test_the_first_place_fits_also_if_no_second_can(self):
        self.assert_fault("states 2\nplace a\nroad a b\nrule keep", 2, 2)
        self.assert_fault("states 2\nplace a\nroad b a\nrule keep", 2, 1)
        self.assert_fault(rows_of(2, "abc", ("a b", "a c", "b c", "c a"), ("keep",) * 3), 7, 2)
        self.assert_fault(rows_of(2, "abc", ("a b", "a c", "b c", "d a"), ("keep",) * 3), 7, 1)

    def test_it_ends_too_early_or_late(self):
        self.check("a c b", 3)
        self.check("a c ", 3)
        self.check("a", 2)
        self.assert_fault("states 2\nplace a\nplace b\nroad", 3, 1)
        self.assert_fault("states 2\nplace a\nplace b\nroad\nrule keep\nrule keep", 3, 1)
        self.assert_fault("states 2\nplace a\nplace b\nroad a\nrule keep\nrule keep", 3, 2)
        self.assert_fault("states 2\nplace a\nroad", 2, 1)
        self.assert_fault("states 2\nplace a\nroad a", 2, 2)

    def test_a_fifteenth(self):
        roads = [" ".join(pair) for pair in PAIRS]
        self.assertIsNone(fault_of(rows_of(2, EIGHT, roads[:14], ("keep",) * 8)))
        self.assert_fault(rows_of(2, EIGHT, roads[:15], ("keep",) * 8), 23, 0)
        self.assert_fault(rows_of(2, EIGHT, roads[:14] + ["x y"], ("keep",) * 8), 23, 0)
        self.assert_fault(rows_of(2, EIGHT, roads[:14], ()) + "\nroad", 23, 0)

    def test_the_text_ends_behind_them(self):
        self.assert_fault("states 2\nplace a\nplace b\nroad a b", 4, 0)
        self.assert_fault(rows_of(2, EIGHT, [" ".join(pair) for pair in PAIRS[:14]], ()), 23, 0)

    def test_ahead_of_places_and_behind_rules(self):
        self.assert_fault("states 2\nroad a b\nplace a\nplace b\nrule keep\nrule keep", 1, 0)
        self.assert_fault("states 2\nplace a\nplace b\nrule keep\nroad a b\nrule keep", 4, 0)
        self.assert_fault("states 2\nplace a\nplace b\nrule keep\nrule keep\nroad a b", 5, 0)


class RuleRowTest(ReadTest):
    def test_the_first_word(self):
        for word in ("rules", "Rule", "", "keep", "states", "/", "0"):
            self.assert_fault(f"states 2\nplace a\n{word} keep", 2, 0)

    def test_the_sort(self):
        for word in ("Keep", "keeps", "", "0", "/", "a", "rule", "even", "odd\t"):
            self.assert_rule_fault(word, 1)
            self.assert_rule_fault(f"{word} 0 0 0 0 0 0 0 0", 1)

    def test_it_ends_behind_the_first_word(self):
        self.assert_fault("states 2\nplace a\nrule", 2, 1)
        self.assert_fault("states 2\nplace a\nplace b\nrule\nrule keep", 3, 1)

    def test_bare_sorts(self):
        for sort in ("keep", "least", "greatest", "odd"):
            for more in ("0", "", "a", "b", "/", "keep"):
                self.assert_rule_fault(f"{sort} {more}", 2)
                self.assert_lone_fault(f"{sort} {more}", 2)

    def test_table_states(self):
        table = "0 1 1 0 1 0 0 1".split()
        for at in range(8):
            for word in ("2", "-1", "01", "00", "", "a", "/", "1\t", "10", "+1"):
                wrong = " ".join(table[:at] + [word] + table[at + 1:])
                self.assert_rule_fault(f"table {wrong}", 2 + at)

    def test_table_states_with_three(self):
        for at in range(27):
            for word in ("3", "-1", "02", "", "/"):
                wrong = " ".join(["2"] * at + [word] + ["2"] * (26 - at))
                self.assert_rule_fault(f"table {wrong}", 2 + at, 3)

    def test_table_lengths(self):
        for length in range(1, 8):
            self.assert_rule_fault("table " + " ".join("0" * length), 2 + length)
        self.assert_rule_fault("table", 2)
        self.assert_rule_fault("table 0 0 0 0 0 0 0 0 0", 10)
        self.assert_rule_fault("table 0 0 0 0 0 0 0 0 ", 10)
        self.assert_rule_fault("table 0 0 0 0 0 0 0 0 x", 10)
        self.assert_rule_fault("table 0 0 0 0 0 0 0  0", 9)
        self.assert_lone_fault("table 0", 3)
        self.assert_lone_fault("table 0 1 1", 4)
        self.assert_lone_fault("table 0 1", 4, 3)
        self.assert_lone_fault("table 0 1 2 0", 5, 3)

    def test_sum_states(self):
        words = "0 1 1 / 1 0 1".split()
        for at in (0, 1, 2, 4, 5, 6):
            for word in ("2", "-1", "01", "00", "", "a", "/", "1\t", "10", "1/"):
                self.assert_rule_fault("sum " + " ".join(words[:at] + [word] + words[at + 1:]), 2 + at)
        for word in ("0", "1", "", "//", "a", "\\", "/\t", "|"):
            self.assert_rule_fault("sum " + " ".join(words[:3] + [word] + words[4:]), 5)

    def test_sum_slashes(self):
        self.assert_rule_fault("sum 0 1 1 1 0 1", 5)
        self.assert_rule_fault("sum 0 1 1 / / 1 0 1", 6)
        self.assert_rule_fault("sum / 0 1 1 / 1 0 1", 2)
        self.assert_rule_fault("sum 0 1 1 / 1 0 1 /", 9)
        self.assert_rule_fault("sum 0 1 / 1 1 0 1", 4)
        self.assert_rule_fault("sum 0 1 1 0 / 1 0 1", 5)
        self.assert_rule_fault("sum 0 1 1 / 1 0 / 1", 8)
        self.assert_rule_fault("sum 0 1 1/ 1 0 1", 4)
        self.assert_rule_fault("sum 0 1 1 /1 0 1", 5)

    def test_sum_lengths(self):
        words = "0 1 1 / 1 0 1".split()
        for length in range(7):
            self.assert_rule_fault(" ".join(["sum"] + words[:length]), 2 + length)
        self.assert_rule_fault("sum 0 1 1 / 1 0 1 0", 9)
        self.assert_rule_fault("sum 0 1 1 / 1 0 1 ", 9)
        self.assert_rule_fault("sum 0 1 1 / 1 0 1 / 0 0 0", 9)
        self.assert_lone_fault("sum 0 0", 3)
        self.assert_lone_fault("sum 0", 3)
        self.assert_lone_fault("sum 0 /", 4)
        self.assert_lone_fault("sum 0 / 1 /", 5)

    def test_sum_with_three_states(self):
        self.assert_rule_fault("sum 0 1 2 2 2 / 0 1 2 2 2", 13, 3)
        self.assert_rule_fault("sum 0 1 2 / 0 1 2 / 0 1 2", 5, 3)
        self.assert_rule_fault("sum 0 1 2 2 2 / 0 1 2 2 3 / 0 0 0 0 0", 12, 3)
        self.assert_rule_fault("sum 0 1 2 2 2 / 0 1 2 2 2 / 0 0 0 0 0 / 0 0 0 0 0", 19, 3)
        self.assert_lone_fault("sum 0 / 1", 5, 3)
        self.assert_lone_fault("sum 0 / 1 / 3", 6, 3)

    def test_most(self):
        for word in ("10", "01", "00", "-1", "", "a", "1\t", "+1", "11", "/"):
            self.assert_rule_fault(f"most {word}", 2)
            self.assert_lone_fault(f"most {word}", 2)
        self.assert_rule_fault("most", 2)
        self.assert_rule_fault("most 1 1", 3)
        self.assert_rule_fault("most 9 ", 3)

    def test_copy(self):
        for word in ("a", "d", "", "B", "bc", "0", "b\t"):
            self.assert_rule_fault(f"copy {word}", 2)
        self.assert_rule_fault("copy", 2)
        self.assert_rule_fault("copy b c", 3)
        self.assert_rule_fault("copy c ", 3)

    def test_copy_fits_where_no_place_can(self):
        self.assert_lone_fault("copy", 2)
        self.assert_lone_fault("copy a", 2)
        self.assert_lone_fault("copy b", 2)
        self.assert_lone_fault("copy ", 2)
        self.assert_fault(rows_of(2, "abc", ("b c",), ("copy b", "keep", "keep")), 5, 2)

    def test_copy_of_a_place_without_a_road_to_it(self):
        self.assert_fault(rows_of(2, "abc", ("a b", "c a"), ("keep", "copy c", "keep")), 7, 2)
        self.assert_fault(rows_of(2, "abc", ("a b", "c a"), ("keep", "copy a", "copy b")), 8, 2)

    def test_a_rule_more_than_places(self):
        self.assert_fault("states 2\nplace a\nrule keep\nrule keep", 3, 0)
        self.assert_fault("states 2\nplace a\nrule keep\nrule", 3, 0)
        self.assert_fault(H_TEXT + "\nrule odd", 9, 0)
        self.assert_fault(H_TEXT + "\nplace d", 9, 0)
        self.assert_fault(H_TEXT + "\nstates 2", 9, 0)
        self.assert_fault(H_TEXT + "\nx", 9, 0)
        self.assert_fault(H_TEXT + "\n\n\n", 9, 0)

    def test_a_line_feed_at_the_end(self):
        self.assert_fault(H_TEXT + "\n", 9, 0)
        self.assert_fault("states 2\nplace a\nrule keep\n", 3, 0)

    def test_a_rule_less_than_places(self):
        rows = H_TEXT.split("\n")
        for many in range(1, 9):
            self.assert_fault("\n".join(rows[:many]), many, 0)
            self.assert_fault("\n".join(rows[:many]) + "\n", many, 0)


class OracleTest(ReadTest):
    """Texts of halls changed in many ways, against a reader that is written another way."""

    halls = [H, EVERY_SORT, THREE_STATES, (2, (("a",), ()), (("sum", ((0,), (1,))),))]

    def check(self, rows):
        text = "\n".join(" ".join(row) for row in rows)
        expected = first_misfit(text)
        self.assertEqual(fault_of(text), expected, text)
        if expected is None:
            hall = read_hall(text)
            self.assertTrue(is_hall(hall))
            self.assertEqual(write_hall(hall), text)

    def each(self):
        for hall in self.halls:
            yield [row.split(" ") for row in write_hall(hall).split("\n")]

    def test_the_oracle_knows_the_halls(self):
        for rows in self.each():
            self.assertIsNone(first_misfit("\n".join(" ".join(row) for row in rows)))

    def test_words_exchanged_left_out_put_in_and_twice(self):
        for rows in self.each():
            for at, row in enumerate(rows):
                for place in range(len(row) + 1):
                    others = [row[:place] + [word] + row[place + 1:] for word in WORDS]
                    others += [row[:place] + [word] + row[place:] for word in WORDS]
                    others += [row[:place] + row[place + 1:], row[:place], row[:place + 1] + row[place:]]
                    for changed in others:
                        self.check(rows[:at] + [changed] + rows[at + 1:])

    def test_rows_left_out_put_in_twice_and_cut(self):
        for rows in self.each():
            for at in range(len(rows) + 1):
                self.check(rows[:at])
                self.check(rows[:at] + [[""]])
                self.check(rows[:at] + rows[at + 1:])
                self.check(rows[:at + 1] + rows[at:])
                for word in WORDS:
                    self.check(rows[:at] + [[word]] + rows[at:])
                    self.check(rows[:at] + [[word]] + rows[at + 1:])

    def test_rows_exchanged_with_each_other_row(self):
        for rows in self.each():
            for at in range(len(rows)):
                for other in range(len(rows)):
                    changed = list(rows)
                    changed[at], changed[other] = changed[other], changed[at]
                    self.check(changed)
                    self.check(rows[:at] + [rows[other]] + rows[at:])
                    self.check(rows[:at] + [rows[other]] + rows[at + 1:])

    def test_signs_exchanged(self):
        for rows in self.each():
            text = "\n".join(" ".join(row) for row in rows)
            for at in range(len(text) + 1):
                for sign in ("", " ", "\n", "a", "0", "2", "/", "\t", "A"):
                    for changed in (text[:at] + sign + text[at + 1:], text[:at] + sign + text[at:]):
                        self.check([row.split(" ") for row in changed.split("\n")])


if __name__ == "__main__":
    unittest.main()
