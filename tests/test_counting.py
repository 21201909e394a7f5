"""How many arrows there are, and which."""

import random
import unittest

from eachinturn.alike import all_arrows, count_arrows
from eachinturn.errors import BadWeb, TooMany
from tests import own
from tests.helpers import EIGHT, H, PAIRS, WEB


def some_webs():
    """Webs of all sizes with roads of all numbers."""
    chance = random.Random(17)
    for many in range(1, 9):
        pairs = [pair for pair in PAIRS if pair[0] in EIGHT[:many] and pair[1] in EIGHT[:many]]
        for roads in range(min(14, len(pairs)) + 1):
            for _ in range(3):
                told = [pair[::chance.choice((1, -1))] for pair in chance.sample(pairs, roads)]
                yield (tuple(chance.sample(EIGHT[:many], many)), tuple(told))


def without(web, road):
    return (web[0], tuple(other for other in web[1] if other != road))


def drawn_together(web, road):
    """The web in which the two places of a road are one, roads that fall together being one."""
    kept, gone = road
    found = {}
    for other in web[1]:
        if other != road:
            pair = tuple(kept if place == gone else place for place in other)
            found[frozenset(pair)] = pair
    return (tuple(place for place in web[0] if place != gone), tuple(found.values()))


class CountArrowsTest(unittest.TestCase):
    def test_against_all_orders(self):
        for web in list(own.WEBS.values()) + [H[1]]:
            expected = len({own.arrows_of(web, order) for order in own.orders_of(web)})
            self.assertEqual(count_arrows(web), expected)
            self.assertIs(type(count_arrows(web)), int)

    def test_eight_places_against_all_orders(self):
        for web in own.EIGHT_WEBS[1:]:
            expected = len({own.arrows_of(web, order) for order in own.orders_of(web)})
            self.assertEqual(count_arrows(web), expected)

    def test_without_rings(self):
        for many in range(1, 9):
            for web in (
                (EIGHT[:many], ()), (EIGHT[:many], tuple(zip(EIGHT, EIGHT[1:many]))), (EIGHT[:many], PAIRS[:many - 1]),
            ):
                self.assertEqual(count_arrows(web), 2 ** len(web[1]))
        self.assertEqual(count_arrows((EIGHT, (("b", "a"), ("d", "a"), ("g", "h"), ("e", "g")))), 16)

    def test_each_two_places_with_a_road(self):
        for many, expected in ((1, 1), (2, 2), (3, 6), (4, 24), (5, 120)):
            pairs = tuple(pair for pair in PAIRS if pair[1] in EIGHT[:many])
            self.assertEqual(count_arrows((EIGHT[:many], pairs)), expected)

    def test_rings(self):
        for many in range(3, 9):
            ring = tuple(zip(EIGHT[:many], EIGHT[1:many] + EIGHT[:1]))
            self.assertEqual(count_arrows((EIGHT[:many], ring)), 2 ** many - 2)
        self.assertEqual(count_arrows(own.R), 14)

    def test_the_sum_for_each_road(self):
        for web in list(some_webs()) + list(own.EIGHT_WEBS):
            for road in web[1]:
                expected = count_arrows(without(web, road)) + count_arrows(drawn_together(web, road))
                self.assertEqual(count_arrows(web), expected)

    def test_more_than_five_hundred_can_be_counted(self):
        self.assertEqual(count_arrows(own.JUST_FEW), 492)
        self.assertEqual(count_arrows(own.JUST_MANY), 502)
        self.assertGreater(count_arrows(own.EIGHT_WITH_FOURTEEN), 1000)


class AllArrowsTest(unittest.TestCase):
    def test_against_all_orders(self):
        for web in own.WEBS.values():
            found = all_arrows(web)
            self.assertEqual(found, sorted({own.arrows_of(web, order) for order in own.orders_of(web)}))
            self.assertIs(type(found), list)
            self.assertEqual({type(told) for told in found}, {tuple})
            self.assertEqual({type(pair) for told in found for pair in told} | {tuple}, {tuple})

    def test_eight_places(self):
        self.assertEqual(all_arrows(own.EIGHT_WITHOUT), [()])
        expected = sorted({own.arrows_of(own.EIGHT_WITH_FEW, order) for order in own.orders_of(own.EIGHT_WITH_FEW)})
        self.assertEqual(all_arrows(own.EIGHT_WITH_FEW), expected)

    def test_names_compare_as_texts(self):
        self.assertEqual(all_arrows((("b", "a"), (("b", "a"),))), [(("a", "b"),), (("b", "a"),)])
        self.assertEqual(all_arrows((("a2", "a10"), (("a2", "a10"),))), [(("a10", "a2"),), (("a2", "a10"),)])

    def test_too_many_exactly_above_five_hundred(self):
        self.assertEqual(len(all_arrows(own.JUST_FEW)), 492)
        self.assertEqual(all_arrows(own.JUST_FEW), sorted(set(all_arrows(own.JUST_FEW))))
        for web in (own.JUST_MANY, own.EIGHT_WITH_FOURTEEN):
            with self.assertRaises(TooMany):
                all_arrows(web)

    def test_too_many_for_webs_of_all_sizes(self):
        found = set()
        for web in some_webs():
            many = count_arrows(web)
            found.add(many > 500)
            if many > 500:
                with self.assertRaises(TooMany):
                    all_arrows(web)
            else:
                self.assertEqual(len(all_arrows(web)), many)
        self.assertEqual(found, {True, False})

    def test_a_wrong_web_comes_first(self):
        many = own.EIGHT_WITH_FOURTEEN
        for web in ((many[0], many[1] + (("a", "g"),)), (list(many[0]), many[1]), None):
            with self.assertRaises(BadWeb):
                all_arrows(web)

    def test_it_is_new_each_time(self):
        found = all_arrows(WEB)
        found.clear()
        self.assertEqual(len(all_arrows(WEB)), 4)


if __name__ == "__main__":
    unittest.main()
