"""Names, webs, neighbours, pieces and forests."""

import itertools
import unittest

from eachinturn.halls import is_forest, is_web, neighbours, pieces
from tests.helpers import (
    EIGHT, MIXED_WEB, PAIRS, WEB, Hostile, LikeAll, as_lists, never_right, odd_objects, put_in, replaced,
)


def named(name):
    return ((name,), ())


class IsWebTest(unittest.TestCase):
    def assert_web(self, thing):
        self.assertIs(is_web(thing), True, thing)

    def assert_none(self, thing):
        self.assertIs(is_web(thing), False)

    def test_webs(self):
        self.assert_web(WEB)
        self.assert_web(MIXED_WEB)
        self.assert_web((("a",), ()))
        self.assert_web((("b", "a"), (("a", "b"),)))

    def test_any_object_is_answered(self):
        for thing in odd_objects():
            self.assert_none(thing)

    def test_anything_that_is_never_right_at_every_depth(self):
        for web in (WEB, (("a",), ()), MIXED_WEB):
            for instead in never_right():
                for thing in replaced(web, instead):
                    self.assert_none(thing)
                for thing in put_in(web, instead):
                    self.assert_none(thing)

    def test_lists_for_tuples_at_every_depth(self):
        for web in (WEB, MIXED_WEB, (("a",), ())):
            for thing in as_lists(web):
                self.assert_none(thing)

    def test_tuples_for_names(self):
        self.assert_none(((("a",),), ()))
        self.assert_none(((("a",), "b"), ()))
        self.assert_none((("a", "b"), ((("a",), "b"),)))

    def test_dicts_and_sets_for_tuples(self):
        self.assert_none({"a": (), "b": ()})
        self.assert_none(({"a": 1}, ()))
        self.assert_none(({"a"}, ()))
        self.assert_none((("a",), {}))
        self.assert_none((("a",), set()))
        self.assert_none((("a", "b"), ({"a": 1, "b": 2},)))
        self.assert_none((("a", "b"), ({"a", "b"},)))

    def test_texts_for_tuples(self):
        self.assert_none(("a", ()))
        self.assert_none("ab")
        self.assert_none((("a", "b"), ("ab",)))
        self.assert_none((("a",), ""))

    def test_pairs_alone(self):
        self.assert_none(())
        self.assert_none((("a",),))
        self.assert_none((("a",), (), ()))
        self.assert_none(((), ()))

    def test_names(self):
        for name in ("a", "z", "m", "a0", "z9", "abcdefgh", "a1234567", "aa", "a0a0a0a0", "zzzzzzzz", "place"):
            self.assert_web(named(name))

    def test_what_is_no_name(self):
        for name in (
            "", "abcdefghi", "a12345678", "1", "0", "9", "1a", "0a", "9z", "A", "Z", "aB", "Ab", "aZ", "ABC",
            "a\n", "a ", " a", "\na", " ", "\n", "a\t", "a_b", "_a", "_", "a-b", "a.b", "a/b", "/", "a b",
            "`", "{", "a`", "a{", "a@", "a[", "a:", ":", "@", "[", "a~", "abcdefg\n", "abcdefgh\n",
        ):
            self.assert_none(named(name))

    def test_every_sign_of_a_name(self):
        for number in [9, 10] + list(range(32, 127)):
            sign = chr(number)
            is_letter = sign in "abcdefghijklmnopqrstuvwxyz"
            self.assertIs(is_web(named(sign)), is_letter, sign)
            for name in ("a" + sign, "a" + sign + "a", "abcdefg" + sign):
                self.assertIs(is_web(named(name)), is_letter or sign in "0123456789", name)

    def test_how_long_a_name_is(self):
        for length in range(12):
            self.assertIs(is_web(named("b" * length)), 1 <= length <= 8)

    def test_how_many_places(self):
        for many in range(1, 9):
            self.assert_web((EIGHT[:many], ()))
        self.assert_none((EIGHT + ("i",), ()))
        self.assert_none((EIGHT + ("i", "j"), ()))
        self.assert_none(((), ()))

    def test_a_place_twice(self):
        self.assert_none((("a", "a"), ()))
        self.assert_none((("a", "b", "a"), ()))
        self.assert_none((("a", "b", "c", "d", "e", "f", "g", "a"), ()))

    def test_how_many_roads(self):
        for many in range(15):
            self.assert_web((EIGHT, PAIRS[:many]))
        for many in (15, 16, 28):
            self.assert_none((EIGHT, PAIRS[:many]))
        self.assert_web((EIGHT, PAIRS[14:]))
        self.assert_none((EIGHT, PAIRS[13:]))

    def test_a_road_from_a_place_to_itself(self):
        self.assert_none((("a",), (("a", "a"),)))
        self.assert_none((("a", "b"), (("a", "b"), ("b", "b"))))

    def test_a_road_to_no_place(self):
        self.assert_none((("a", "b"), (("a", "c"),)))
        self.assert_none((("a", "b"), (("c", "a"),)))
        self.assert_none((("a", "b"), (("a", 1),)))
        self.assert_none((("a", "b"), (("a", ""),)))
        self.assert_none((("ab", "c"), (("a", "c"),)))

    def test_a_road_twice(self):
        self.assert_none((("a", "b"), (("a", "b"), ("a", "b"))))
        self.assert_none((("a", "b"), (("a", "b"), ("b", "a"))))
        self.assert_none((("a", "b", "c"), (("b", "a"), ("b", "c"), ("a", "b"))))
        self.assert_web((("a", "b", "c"), (("b", "a"), ("b", "c"), ("c", "a"))))

    def test_roads_of_other_lengths(self):
        self.assert_none((("a", "b", "c"), (("a",),)))
        self.assert_none((("a", "b", "c"), (("a", "b", "c"),)))
        self.assert_none((("a", "b", "c"), ((),)))
        self.assert_none((("a", "b", "c"), ("a", "b")))

    def test_what_can_be_asked_nothing_or_equals_all(self):
        for thing in (Hostile(), LikeAll()):
            self.assert_none(thing)
            self.assert_none((thing, ()))
            self.assert_none((("a",), thing))
            self.assert_none((("a", thing), ()))
            self.assert_none((("a", "b"), (thing,)))
            self.assert_none((("a", "b"), (("a", thing),)))
            self.assert_none((("a", "b"), ((thing, "b"),)))

    def test_by_name(self):
        self.assertIs(is_web(thing=WEB), True)
        self.assertIs(is_web(thing=None), False)


class NeighboursTest(unittest.TestCase):
    def test_in_the_sequence_of_the_numbers(self):
        self.assertEqual(neighbours(WEB, "a"), ("b",))
        self.assertEqual(neighbours(WEB, "b"), ("a", "c"))
        self.assertEqual(neighbours(WEB, "c"), ("b",))
        self.assertEqual(neighbours(MIXED_WEB, "m"), ("c", "k"))
        self.assertEqual(neighbours(MIXED_WEB, "c"), ("m", "z9"))
        self.assertEqual(neighbours(MIXED_WEB, "z9"), ("c", "a"))
        self.assertEqual(neighbours(MIXED_WEB, "a"), ("z9",))

    def test_a_place_without_roads(self):
        self.assertEqual(neighbours((("a", "b", "c"), (("a", "c"),)), "b"), ())
        self.assertEqual(neighbours((("a",), ()), "a"), ())

    def test_whatever_the_sequence_and_direction_of_the_roads(self):
        roads = (("a", "b"), ("a", "c"), ("d", "a"), ("c", "d"))
        for turned in itertools.product((1, -1), repeat=4):
            for shuffled in itertools.permutations(roads):
                web = (("d", "b", "a", "c"), tuple(road[::way] for road, way in zip(shuffled, turned)))
                self.assertEqual(neighbours(web, "a"), ("d", "b", "c"))
                self.assertEqual(neighbours(web, "d"), ("a", "c"))
                self.assertEqual(neighbours(web, "b"), ("a",))

    def test_whatever_the_sequence_of_the_places(self):
        for places in itertools.permutations(("a", "b", "c", "d")):
            web = (places, (("a", "b"), ("c", "a"), ("a", "d")))
            self.assertEqual(neighbours(web, "a"), tuple(place for place in places if place != "a"))
            self.assertEqual(neighbours(web, "c"), ("a",))

    def test_seven_neighbours(self):
        places = ("b", "c", "d", "a", "e", "f", "g", "h")
        self.assertEqual(neighbours((places, PAIRS[:7]), "a"), ("b", "c", "d", "e", "f", "g", "h"))

    def test_it_is_a_tuple_of_names(self):
        found = neighbours(WEB, "b")
        self.assertIs(type(found), tuple)
        self.assertEqual([type(place) for place in found], [str, str])


class PiecesTest(unittest.TestCase):
    def test_pieces(self):
        self.assertEqual(pieces(WEB), [("a", "b", "c")])
        self.assertEqual(pieces(MIXED_WEB), [("a", "c", "k", "m", "z9")])
        self.assertEqual(pieces((("a",), ())), [("a",)])
        self.assertEqual(pieces((("c", "b", "a"), ())), [("a",), ("b",), ("c",)])

    def test_names_compare_as_texts(self):
        places = ("b2", "b10", "z", "a", "b", "aa", "a9")
        roads = (("z", "b10"), ("a9", "b"), ("b2", "b"))
        self.assertEqual(pieces((places, roads)), [("a",), ("a9", "b", "b2"), ("aa",), ("b10", "z")])

    def test_whatever_the_sequence_of_the_places_and_roads(self):
        roads = (("e", "a"), ("b", "d"), ("a", "c"))
        for places in itertools.permutations(("a", "b", "c", "d", "e")):
            for shuffled in itertools.permutations(roads):
                self.assertEqual(pieces((places, shuffled)), [("a", "c", "e"), ("b", "d")])

    def test_long_ways(self):
        roads = (("a", "b"), ("c", "d"), ("e", "f"), ("g", "h"), ("b", "c"), ("f", "g"))
        self.assertEqual(pieces((EIGHT, roads)), [("a", "b", "c", "d"), ("e", "f", "g", "h")])
        for shuffled in itertools.permutations(roads + (("h", "a"),)):
            self.assertEqual(pieces((EIGHT[::-1], shuffled)), [EIGHT])

    def test_rings_are_one_piece(self):
        roads = (("a", "b"), ("b", "c"), ("c", "a"), ("d", "e"), ("e", "f"), ("f", "d"))
        self.assertEqual(pieces((EIGHT, roads)), [("a", "b", "c"), ("d", "e", "f"), ("g",), ("h",)])

    def test_a_list_of_tuples_that_is_new(self):
        found = pieces(WEB)
        self.assertIs(type(found), list)
        self.assertEqual([type(piece) for piece in found], [tuple])
        found.append("more")
        found[0] = None
        self.assertEqual(pieces(WEB), [("a", "b", "c")])
        self.assertIsNot(pieces(WEB), pieces(WEB))


class IsForestTest(unittest.TestCase):
    def test_without_rings(self):
        self.assertIs(is_forest(WEB), True)
        self.assertIs(is_forest(MIXED_WEB), True)
        self.assertIs(is_forest((EIGHT, PAIRS[:7])), True)

    def test_without_roads(self):
        self.assertIs(is_forest((("a",), ())), True)
        self.assertIs(is_forest((EIGHT, ())), True)

    def test_with_a_ring(self):
        self.assertIs(is_forest((("a", "b", "c"), (("a", "b"), ("b", "c"), ("c", "a")))), False)
        square = (("a", "b", "c", "d"), (("a", "b"), ("b", "c"), ("c", "d"), ("a", "d")))
        self.assertIs(is_forest(square), False)
        self.assertIs(is_forest((EIGHT, PAIRS[:8])), False)
        self.assertIs(is_forest((EIGHT, PAIRS[:14])), False)

    def test_of_several_pieces(self):
        self.assertIs(is_forest((EIGHT, (("a", "b"), ("d", "c"), ("d", "e"), ("g", "h")))), True)
        self.assertIs(is_forest((EIGHT, (("a", "b"), ("d", "c"), ("d", "e"), ("c", "e")))), False)

    def test_a_ring_beside_places_without_roads(self):
        self.assertIs(is_forest((EIGHT, (("a", "b"), ("b", "c"), ("c", "a")))), False)


if __name__ == "__main__":
    unittest.main()
