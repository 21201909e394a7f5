"""Classes of orders: how many there are, which, and how turns lead through each of them."""

import unittest

from eachinturn.alike import all_arrows, are_alike, count_arrows, order_for
from eachinturn.errors import BadOrder, BadPieces, BadPlace, BadWeb, TooMany
from eachinturn.halls import pieces
from eachinturn.turning import (
    class_arrows, classes, count_classes, moves_to, only_first, ring_counts, turn_graph,
)
from tests import own
from tests.helpers import EIGHT, H, PAIRS, WEB
from tests.test_counting import some_webs

RING_OF = {many: (EIGHT[:many], tuple(zip(EIGHT[:many], EIGHT[1:many] + EIGHT[:1]))) for many in range(3, 9)}


def is_only_first(web, order, place):
    """Whether the place is first and each other one has a neighbour ahead of it."""
    return order[0] == place and all(
        any(own.joined(web, order[at], ahead) for ahead in order[:at]) for at in range(1, len(order))
    )


class OnlyFirstTest(unittest.TestCase):
    def test_against_all_orders(self):
        for web in own.WEBS.values():
            if len(pieces(web)) > 1:
                continue
            for orders in own.classes_of(web).values():
                for place in web[0]:
                    right = sorted(
                        [order for order in orders if is_only_first(web, order, place)],
                        key=lambda order: own.by_numbers(web, order),
                    )
                    self.assertEqual(len({own.arrows_of(web, order) for order in right}), 1)
                    for order in sorted(orders)[::7]:
                        self.assertEqual(only_first(web, order, place), right[0])

    def test_eight_places(self):
        for web in (own.EIGHT_WITH_FOURTEEN, (EIGHT, PAIRS[:7]), RING_OF[8]):
            for order in own.some_orders(web, 5):
                for place in web[0]:
                    found = only_first(web, order, place)
                    self.assertTrue(is_only_first(web, found, place))
                    self.assertEqual(found, order_for(web, own.arrows_of(web, found)))
                    self.assertEqual(own.carry_out(web, order, moves_to(web, order, found))[0], found)
                    self.assertIs(type(found), tuple)

    def test_by_hand(self):
        self.assertEqual(only_first(WEB, ("a", "b", "c"), "b"), ("b", "a", "c"))
        self.assertEqual(only_first(WEB, ("c", "b", "a"), "a"), ("a", "b", "c"))
        self.assertEqual(only_first((("q",), ()), ("q",), "q"), ("q",))
        self.assertEqual(only_first(own.R, ("a", "b", "c", "d"), "c"), ("c", "d", "a", "b"))
        self.assertEqual(only_first(own.R, ("a", "c", "b", "d"), "c"), ("c", "b", "d", "a"))

    def test_several_pieces_come_ahead_of_wrong_orders_and_places(self):
        for name in ("two apart", "two and one", "no roads", "two roads apart", "a ring and one"):
            web = own.SMALL_WEBS[name]
            for order in (web[0], web[0][:1], None):
                for place in (web[0][0], "nowhere", None):
                    with self.assertRaises(BadPieces):
                        only_first(web, order, place)
        with self.assertRaises(BadOrder):
            only_first(WEB, ("a", "b"), "nowhere")
        with self.assertRaises(BadPlace):
            only_first(WEB, ("a", "b", "c"), "nowhere")
        with self.assertRaises(BadWeb):
            only_first(list(own.SMALL_WEBS["two apart"]), None, None)


class CountClassesTest(unittest.TestCase):
    def test_against_all_orders(self):
        for web in own.WEBS.values():
            self.assertEqual(count_classes(web), len(own.classes_of(web)))
            self.assertIs(type(count_classes(web)), int)

    def test_forests_have_one(self):
        for web in (own.EIGHT_WITHOUT, WEB, (EIGHT, PAIRS[:7]), (EIGHT, tuple(zip(EIGHT, EIGHT[1:]))), (("a",), ()),
                    (EIGHT, (("a", "b"), ("d", "c"), ("d", "e"), ("g", "h")))):
            self.assertEqual(count_classes(web), 1)

    def test_rings(self):
        for many, web in RING_OF.items():
            self.assertEqual(count_classes(web), many - 1)

    def test_several_pieces(self):
        roads = (("a", "b"), ("b", "c"), ("c", "a"), ("d", "e"), ("e", "f"), ("f", "g"), ("g", "d"))
        self.assertEqual(count_classes((EIGHT, roads)), 6)

    def test_eight_places_against_all_orders(self):
        for web in own.EIGHT_WEBS[1:]:
            first = web[0]
            counts = {tuple(ring_counts(web, order)) for order in own.orders_of(web) if order[0] == first[0]}
            self.assertEqual(count_classes(web), len(counts))

    def test_arrows_by_which_one_place_alone_has_none_to_it(self):
        for web in list(own.WEBS.values()) + [RING_OF[6]]:
            if len(pieces(web)) == 1:
                for place in web[0]:
                    told = [
                        one for one in all_arrows(web)
                        if {other for _, other in one} == set(web[0]) - {place}
                    ]
                    self.assertEqual(len(told), count_classes(web))


class ClassesTest(unittest.TestCase):
    def test_against_all_orders(self):
        for web in own.WEBS.values():
            expected = sorted(
                (tuple(forward for _, forward in ring_counts(web, first)), first) for first in own.classes_of(web)
            )
            found = classes(web)
            self.assertEqual(found, expected)
            self.assertIs(type(found), list)
            for pair in found:
                self.assertEqual([type(part) for part in (pair,) + pair], [tuple] * 3)

    def test_r(self):
        self.assertEqual([counts for counts, _ in classes(own.R)], [(1,), (2,), (3,)])
        self.assertEqual([len(class_arrows(own.R, first)) for _, first in classes(own.R)], [4, 6, 4])
        self.assertEqual(count_arrows(own.R), 14)
        self.assertEqual(classes(own.R)[2], ((3,), ("a", "b", "c", "d")))

    def test_first_orders_by_numbers(self):
        web = (("z", "m", "a"), (("z", "m"), ("m", "a"), ("a", "z")))
        # the first orders as texts would begin with a
        self.assertEqual(classes(web), [((1,), ("z", "a", "m")), ((2,), ("z", "m", "a"))])

    def test_forests(self):
        self.assertEqual(classes(own.EIGHT_WITHOUT), [((), own.EIGHT_WITHOUT[0])])
        self.assertEqual(classes(WEB), [((), ("a", "b", "c"))])

    def test_too_many_exactly_above_five_hundred_arrows(self):
        found = classes(own.JUST_FEW)
        self.assertEqual(len(found), count_classes(own.JUST_FEW))
        self.assertEqual(found, sorted(found))
        for web in (own.JUST_MANY, own.EIGHT_WITH_FOURTEEN):
            with self.assertRaises(TooMany):
                classes(web)
            self.assertGreater(count_classes(web), 1)

    def test_of_webs_of_all_sizes(self):
        for web in list(some_webs())[::5]:
            if count_arrows(web) <= 500:
                found = classes(web)
                self.assertEqual(len(found), count_classes(web))
                for counts, order in found:
                    self.assertEqual(tuple(forward for _, forward in ring_counts(web, order)), counts)
                    # in each class there are orders that begin with the first place
                    self.assertEqual(order[0], web[0][0])


class ClassArrowsTest(unittest.TestCase):
    def test_against_all_orders(self):
        for web in own.WEBS.values():
            for first, orders in own.classes_of(web).items():
                expected = sorted({own.arrows_of(web, order) for order in orders})
                self.assertLessEqual(len(expected), 2 ** (len(web[0]) - len(pieces(web))))
                for order in sorted(orders)[::11]:
                    found = class_arrows(web, order)
                    self.assertEqual(found, expected)
                    self.assertIs(type(found), list)
                    self.assertEqual({type(told) for told in found}, {tuple})

    def test_eight_places(self):
        self.assertEqual(class_arrows(own.EIGHT_WITHOUT, EIGHT), [()])
        for web, order in ((own.EIGHT_WITH_FEW, EIGHT), (own.EIGHT_WITH_FOURTEEN, EIGHT[::-1])):
            expected = sorted({own.arrows_of(web, other) for other in own.class_of(web, order)})
            self.assertEqual(class_arrows(web, order), expected)

    def test_forests_have_them_all(self):
        web = (EIGHT, PAIRS[:7])
        self.assertEqual(class_arrows(web, EIGHT), all_arrows(web))
        self.assertEqual(len(class_arrows(web, EIGHT)), 128)

    def test_the_classes_together_have_all_arrows(self):
        for web in own.WEBS.values():
            told = [one for _, first in classes(web) for one in class_arrows(web, first)]
            self.assertEqual(sorted(told), all_arrows(web))

    def test_where_there_are_more_than_five_hundred(self):
        self.assertLessEqual(len(class_arrows(own.JUST_MANY, own.JUST_MANY[0])), 64)


class TurnGraphTest(unittest.TestCase):
    def expected(self, web, orders):
        found = set()
        for order in orders:
            found.add((own.arrows_of(web, order), order[0], own.arrows_of(web, order[1:] + order[:1])))
        return sorted(found)

    def test_against_all_turns(self):
        for web in own.WEBS.values():
            for orders in own.classes_of(web).values():
                expected = self.expected(web, orders)
                for order in sorted(orders)[::13]:
                    found = turn_graph(web, order)
                    self.assertEqual(found, expected)
                    self.assertIs(type(found), list)
                    self.assertEqual({type(edge) for edge in found}, {tuple})

    def test_places_without_roads(self):
        self.assertEqual(turn_graph((("b", "a"), ()), ("b", "a")), [((), "a", ()), ((), "b", ())])
        self.assertEqual(turn_graph(own.EIGHT_WITHOUT, EIGHT), [((), place, ()) for place in EIGHT])
        web = (("b", "a", "c"), (("a", "c"),))
        self.assertEqual(turn_graph(web, ("a", "b", "c")), [
            ((("a", "c"),), "a", (("c", "a"),)), ((("a", "c"),), "b", (("a", "c"),)),
            ((("c", "a"),), "b", (("c", "a"),)), ((("c", "a"),), "c", (("a", "c"),)),
        ])

    def test_eight_places(self):
        for web, order in ((own.EIGHT_WITH_FEW, EIGHT), (own.EIGHT_WITH_FOURTEEN, EIGHT[::-1])):
            self.assertEqual(turn_graph(web, order), self.expected(web, own.class_of(web, order)))

    def test_alike_orders_have_one_graph(self):
        for web in own.SMALL_WEBS.values():
            orders = own.orders_of(web)
            for order, other in zip(orders, orders[1:]):
                if are_alike(web, order, other):
                    self.assertEqual(turn_graph(web, order), turn_graph(web, other))

    def test_the_web_of_h(self):
        self.assertEqual(len(turn_graph(H[1], ("a", "b", "c"))), 5)


if __name__ == "__main__":
    unittest.main()
