"""Orders out of samples of what a day makes."""

import collections
import itertools
import random
import unittest

from eachinturn.days import day
from eachinturn.errors import BadHall, BadOrder, BadOrders, BadSamples, TooMany
from eachinturn.halls import states_of
from eachinturn.samples import (
    asking, fits, fitting_arrows, like_days, sample_fault, sure_arrows, unlike_state,
)
from tests import own
from tests.helpers import EVERY_SORT, H, THREE_STATES, Hostile, LikeAll, as_lists, never_right

ABC, BAC = ("a", "b", "c"), ("b", "a", "c")
ALL = [(one, other) for one in ("ab", "ba") for other in ("bc", "cb")]
ROW = (2, (("b", "a"), (("b", "a"),)), (("copy", "a"), ("copy", "b")))
MANY = (2, own.JUST_MANY, (("odd",),) * 7)
FEW = (2, own.JUST_FEW, (("odd",),) * 7)


def halls(many=2):
    return list(own.small_halls(many=many)) + [H]


def own_fits(hall, order, samples):
    return all(own.day_of(hall, order, one) == two for one, two in samples)


def own_fitting(hall, samples):
    return sorted({own.arrows_of(hall[1], order) for order in own.orders_of(hall[1]) if own_fits(hall, order, samples)})


def some_samples(hall, seed):
    """Tuples of samples that some order fits, and such as none need fit."""
    chance = random.Random(seed)
    states, orders = own.states_of(hall), own.orders_of(hall[1])
    yield ()
    for many in (1, 2, 3, 20):
        order = chance.choice(orders)
        firsts = [chance.choice(states) for _ in range(many)]
        yield tuple((state, own.day_of(hall, order, state)) for state in firsts)
        yield tuple((state, own.day_of(hall, chance.choice(orders), state)) for state in firsts)
    yield tuple((chance.choice(states), chance.choice(states)) for _ in range(2))
    yield ((states[-1], own.day_of(hall, orders[-1], states[-1])),) * 4


ONE = (1, 0, 0)
WRONG_SAMPLES = [
    ((ONE, ONE),) * 21, [(ONE, ONE)], (ONE, ONE), ((ONE, ONE, ONE),), ((ONE,),), ([ONE, ONE],), ((ONE, [1, 0, 0]),),
    ((ONE, (1, 0)),), (((1, 0, 0, 0), ONE),), ((ONE, (1, 0, 2)),), ((ONE, (True, 0, 0)),), (((True, False, False), ONE),),
    ((ONE, None),), ((ONE, ONE), None), ((ONE, ONE), ()), {ONE: ONE}, ((4, 4),), (("100", "100"),),
    ((ONE, ONE), (ONE, (1, 0, -1))), ((ONE, ONE), Hostile()), (Hostile(),), ((Hostile(), ONE),), ((ONE, LikeAll()),),
]


class FittingTest(unittest.TestCase):
    def test_against_days_of_all_orders(self):
        found = set()
        for seed, hall in enumerate(halls()):
            everything = sorted(own.firsts_of(hall[1]))
            for samples in some_samples(hall, seed):
                expected = own_fitting(hall, samples)
                fitting = fitting_arrows(hall, samples)
                self.assertEqual(fitting, expected)
                self.assertIs(type(fitting), list)
                found.add((len(fitting) > 0, len(fitting) < len(everything)))
                for order in own.orders_of(hall[1])[::5]:
                    self.assertIs(fits(hall, order, samples), own_fits(hall, order, samples))
        self.assertEqual(found, {(True, True), (True, False), (False, True)})

    def test_the_example(self):
        self.assertEqual(fitting_arrows(H, (((1, 0, 0), (0, 0, 0)),)), [(("a", "b"), ("b", "c")), (("a", "b"), ("c", "b"))])
        self.assertEqual(fitting_arrows(H, (((1, 0, 0), (1, 1, 1)),)), [(("b", "a"), ("b", "c"))])
        self.assertIs(fits(H, BAC, (((1, 0, 0), (1, 1, 1)),)), True)
        self.assertIs(fits(H, ABC, (((1, 0, 0), (1, 1, 1)),)), False)
        self.assertEqual(fitting_arrows(H, (((1, 0, 0), (0, 1, 0)),)), [])

    def test_no_sample_lets_all_fit(self):
        for web in own.SMALL_WEBS.values():
            hall = own.some_hall(web, 2, 1)
            self.assertEqual(fitting_arrows(hall, ()), sorted(own.firsts_of(web)))
            for order in own.some_orders(web, 3):
                self.assertIs(fits(hall, order, ()), True)

    def test_twenty_and_like_ones(self):
        right = ((1, 0, 0), (1, 1, 1))
        self.assertEqual(fitting_arrows(H, (right,) * 20), fitting_arrows(H, (right,)))
        self.assertIs(fits(H, BAC, (right,) * 20), True)
        self.assertIs(fits(H, BAC, (right,) * 19 + ((right[0], (0, 0, 0)),)), False)
        self.assertEqual(fitting_arrows(H, (right,) * 19 + ((right[0], (0, 0, 0)),)), [])
        self.assertEqual(sure_arrows(H, (right,) * 20), (("b", "a"), ("b", "c")))
        for function, more in ((fitting_arrows, ()), (sure_arrows, ()), (sample_fault, ()), (fits, (BAC,))):
            with self.assertRaises(BadSamples):
                function(H, *more, (right,) * 21)

    def test_eight_places(self):
        hall = own.some_hall(own.EIGHT_WITH_RINGS, 2, 6)
        order = own.some_orders(hall[1], 1)[0]
        samples = tuple((state, own.day_of(hall, order, state)) for state in own.states_of(hall)[3::13])
        self.assertEqual(len(samples), 20)
        found = fitting_arrows(hall, samples)
        self.assertIn(own.arrows_of(hall[1], order), found)
        self.assertEqual(len(fitting_arrows(hall, ())), 450)
        self.assertLess(len(found), 450)
        for other in own.some_orders(hall[1], 20):
            self.assertIs(own.arrows_of(hall[1], other) in found, own_fits(hall, other, samples))

    def test_what_are_no_samples(self):
        for samples in WRONG_SAMPLES + never_right() + list(
            as_lists((((1, 0, 0), (0, 0, 0)),))
        ):
            for function, more in ((fitting_arrows, ()), (sure_arrows, ()), (sample_fault, ()), (fits, (BAC,))):
                with self.assertRaises(BadSamples):
                    function(H, *more, samples)

    def test_states_of_another_hall(self):
        with self.assertRaises(BadSamples):
            fitting_arrows(H, (((0, 0, 2), (0, 0, 0)),))
        with self.assertRaises(BadSamples):
            fitting_arrows(THREE_STATES, (((0, 0, 2), (0, 0, 0)),))
        self.assertEqual(len(fitting_arrows(THREE_STATES, ())), 4)

    def test_the_errors_ahead(self):
        for function in (fitting_arrows, sure_arrows, sample_fault):
            for hall in (None, H[:2], list(H), Hostile()):
                for samples in ((), None, Hostile()):
                    with self.assertRaises(BadHall):
                        function(hall, samples)
        with self.assertRaises(BadHall):
            fits(H[:2], None, None)
        with self.assertRaises(BadOrder):
            fits(H, ("a", "b"), None)

    def test_too_many(self):
        nought = (0,) * 7
        for function in (fitting_arrows, sure_arrows, sample_fault):
            for web in (own.JUST_MANY, own.EIGHT_WITH_FOURTEEN):
                hall = (2, web, (("odd",),) * len(web[0]))
                for samples in ((), (((0,) * len(web[0]), (0,) * len(web[0])),) * 3):
                    with self.assertRaises(TooMany):
                        function(hall, samples)
            for samples in (None, [], ((nought, nought[1:]),), ((nought, nought),) * 21):
                with self.assertRaises(BadSamples):
                    function(MANY, samples)
            with self.assertRaises(BadHall):
                function(MANY[:2], ())
        self.assertEqual(len(fitting_arrows(FEW, ())), 492)
        self.assertEqual(len(fitting_arrows(FEW, ((nought, nought),))), 492)
        self.assertEqual(sure_arrows(FEW, ()), (None,) * 10)
        self.assertIsNone(sample_fault(FEW, ()))
        self.assertIs(fits(MANY, own.JUST_MANY[0], ((nought, nought),)), True)


class SureArrowsTest(unittest.TestCase):
    def test_against_days_of_all_orders(self):
        found = set()
        for seed, hall in enumerate(halls()):
            for samples in some_samples(hall, seed):
                fitting = own_fitting(hall, samples)
                expected = None
                if fitting:
                    expected = tuple(
                        arrow[0] if len(set(arrow)) == 1 else None for arrow in zip(*fitting)
                    )
                self.assertEqual(sure_arrows(hall, samples), expected)
                if expected is not None:
                    self.assertIs(type(sure_arrows(hall, samples)), tuple)
                    found |= {arrow is None for arrow in expected}
                else:
                    found.add("none fits")
        self.assertEqual(found, {True, False, "none fits"})

    def test_by_hand(self):
        self.assertEqual(sure_arrows(H, ()), (None, None))
        self.assertEqual(sure_arrows(H, (((1, 0, 0), (0, 0, 0)),)), (("a", "b"), None))
        self.assertEqual(sure_arrows(H, (((1, 0, 0), (1, 1, 1)),)), (("b", "a"), ("b", "c")))
        self.assertIsNone(sure_arrows(H, (((1, 0, 0), (0, 1, 0)),)))
        # without roads there is one tuple of arrows, the empty one
        lone = (2, (("q",), ()), (("keep",),))
        self.assertEqual(sure_arrows(lone, ()), ())
        self.assertIsNone(sure_arrows(lone, (((1,), (0,)),)))


def own_asking(hall, orders):
    best = None
    for state in own.states_of(hall):
        groups = collections.Counter(own.day_of(hall, order, state) for order in orders)
        if best is None or max(groups.values()) < best[0]:
            best = (max(groups.values()), state, sorted(groups.items()))
    return best[1:]


class AskingTest(unittest.TestCase):
    def test_against_days_of_all_states(self):
        greatest = set()
        for seed, hall in enumerate(halls()):
            for many in (2, 3, 6, 11):
                orders = own.some_orders(hall[1], many, seed)
                expected = own_asking(hall, orders)
                for handed in (orders, tuple(orders)):
                    found = asking(hall, handed)
                    self.assertEqual(found, expected)
                    self.assertEqual((type(found), type(found[0]), type(found[1])), (tuple, tuple, list))
                    self.assertEqual({type(group) for group in found[1]}, {tuple})
                    self.assertEqual(sum(group[1] for group in found[1]), many)
                greatest.add(many - max(group[1] for group in expected[1]))
        self.assertGreaterEqual(greatest, {0, 1, 2, 3, 4})

    def test_the_example(self):
        # of (0, 0, 0) all make the same; of (0, 0, 1) each of these makes something else
        self.assertEqual(asking(H, [ABC, BAC]), ((0, 0, 1), [((0, 1, 1), 1), ((1, 1, 1), 1)]))
        self.assertEqual(asking(H, [ABC, ABC]), ((0, 0, 0), [((0, 0, 0), 2)]))

    def test_like_orders_count_each(self):
        one = asking(H, [ABC] * 3 + [BAC])
        self.assertEqual(one, ((0, 0, 1), [((0, 1, 1), 3), ((1, 1, 1), 1)]))
        self.assertEqual(asking(H, [BAC] + [ABC] * 3), one)
        self.assertEqual(asking(H, (ABC,) * 50 + (BAC,) * 50), ((0, 0, 1), [((0, 1, 1), 50), ((1, 1, 1), 50)]))

    def test_two_and_a_hundred(self):
        for many in (2, 3, 99, 100):
            orders = own.some_orders(H[1], many)
            self.assertEqual(asking(H, orders), own_asking(H, orders))
        big = own.BIG_TWO
        orders = own.some_orders(big[1], 100)
        state, groups = asking(big, orders)
        self.assertEqual(dict(groups), collections.Counter(own.day_of(big, order, state) for order in orders))

    def test_what_are_no_orders(self):
        near = [
            [], (), [ABC], (ABC,), [ABC] * 101, (ABC,) * 101, [ABC, ("a", "b")], [ABC, list(ABC)], [ABC, None], ABC,
            (ABC, "abc"), {ABC: 1, BAC: 2}, {ABC, BAC}, iter([ABC, BAC]), [ABC, ABC + ("a",)], [ABC, ("a", "b", "b")],
            [ABC] * 99 + [("a",)], [(0, 1, 2), ABC], [ABC, Hostile()], (Hostile(), ABC), [[ABC, BAC]], "ab", [ABC, True],
        ]
        for orders in near + never_right():
            with self.assertRaises(BadOrders):
                asking(H, orders)
        for hall in (None, H[:2], Hostile()):
            with self.assertRaises(BadHall):
                asking(hall, None)

    def test_what_was_handed_in_stays(self):
        orders = [ABC, BAC, ABC]
        asking(H, orders)
        self.assertEqual(orders, [ABC, BAC, ABC])

    def test_more_than_five_hundred_arrows(self):
        orders = own.some_orders(own.JUST_MANY, 3)
        self.assertEqual(asking(MANY, orders), own_asking(MANY, orders))


class UnlikeStateTest(unittest.TestCase):
    def test_against_days_of_all_states(self):
        found = set()
        for hall in halls():
            for order, other in zip(own.some_orders(hall[1], 8), own.some_orders(hall[1], 8, 5)):
                unlike = [
                    state for state in own.states_of(hall)
                    if own.day_of(hall, order, state) != own.day_of(hall, other, state)
                ]
                expected = unlike[0] if unlike else None
                self.assertEqual(unlike_state(hall, order, other), expected)
                alike = own.arrows_of(hall[1], order) == own.arrows_of(hall[1], other)
                found.add((alike, expected is None))
        self.assertEqual(found, {(True, True), (False, True), (False, False)})

    def test_by_hand(self):
        self.assertEqual(unlike_state(H, ABC, BAC), (0, 0, 1))
        self.assertIsNone(unlike_state(H, ("a", "c", "b"), ("c", "a", "b")))
        # no rule looks at another place: all days are the same
        self.assertIsNone(unlike_state((2, H[1], (("keep",),) * 3), ABC, BAC))

    def test_more_than_five_hundred_arrows(self):
        order, other = own.some_orders(own.JUST_MANY, 2)
        state = unlike_state(MANY, order, other)
        self.assertNotEqual(day(MANY, order, state), day(MANY, other, state))

    def test_wrong_arguments(self):
        for hall, order, other, error in (
            (H[:2], None, None, BadHall), (H, ("a", "b"), None, BadOrder), (H, ABC, ["a", "b", "c"], BadOrder),
        ):
            with self.assertRaises(error):
                unlike_state(hall, order, other)


class LikeDaysTest(unittest.TestCase):
    def test_against_all_orders(self):
        found = set()
        for hall in halls():
            groups = {}
            for order in own.firsts_of(hall[1]).values():
                groups.setdefault(tuple(own.table_of_days(hall, order).values()), []).append(order)
            expected = sorted(sorted(group) for group in groups.values())
            told = like_days(hall)
            self.assertEqual(told, expected)
            self.assertEqual({type(told)} | {type(group) for group in told}, {list})
            found.add((len(told) > 1, max(len(group) for group in told) > 1))
        self.assertEqual(found, {(True, True), (True, False), (False, True), (False, False)})

    def test_by_hand(self):
        self.assertEqual(like_days(ROW), [[("a", "b")], [("b", "a")]])
        self.assertEqual(like_days((2, ROW[1], (("copy", "a"), ("keep",)))), [[("a", "b"), ("b", "a")]])
        lone = (2, (("z", "a"), ()), (("keep",), ("odd",)))
        self.assertEqual(like_days(lone), [[("z", "a")]])

    def test_names_compare_as_texts(self):
        # z is first by numbers, a by texts
        hall = (2, (("z", "m", "a"), (("z", "m"), ("m", "a"))), (("keep",),) * 3)
        self.assertEqual(
            like_days(hall), [[("a", "m", "z"), ("m", "z", "a"), ("z", "a", "m"), ("z", "m", "a")]],
        )

    def test_too_many(self):
        for web in (own.JUST_MANY, own.EIGHT_WITH_FOURTEEN):
            with self.assertRaises(TooMany):
                like_days((2, web, (("keep",),) * len(web[0])))
        with self.assertRaises(BadHall):
            like_days(MANY[:2])
        self.assertEqual([len(group) for group in like_days((2, own.JUST_FEW, (("keep",),) * 7))], [492])

    def test_eight_places(self):
        hall = own.some_hall(own.EIGHT_WITH_RINGS, 2, 6)
        groups = like_days(hall)
        self.assertEqual(sum(len(group) for group in groups), 450)
        self.assertGreater(len(groups), 1)
        for group in groups[::9]:
            for order in group[1:3]:
                self.assertEqual(own.table_of_days(hall, order), own.table_of_days(hall, group[0]))


def own_fault(hall, samples):
    orders = list(own.firsts_of(hall[1]).values())
    for many in range(len(samples) + 1):
        for chosen in itertools.combinations(range(len(samples)), many):
            if not any(own_fits(hall, order, [samples[at] for at in chosen]) for order in orders):
                return chosen
    return None


class SampleFaultTest(unittest.TestCase):
    def test_against_all_sets_of_samples(self):
        sizes = set()
        ringed = [own.some_hall(own.SMALL_WEBS[name], 2, seed) for name in ("R", "each two of four") for seed in range(9)]
        for seed, hall in enumerate(halls() + ringed):
            chance = random.Random(seed)
            orders, states = own.orders_of(hall[1]), own.states_of(hall)
            for many in (1, 2, 3, 4, 6):
                firsts = [chance.choice(states) for _ in range(many)]
                samples = tuple((state, own.day_of(hall, chance.choice(orders), state)) for state in firsts)
                found = sample_fault(hall, samples)
                self.assertEqual(found, own_fault(hall, samples))
                self.assertEqual(found is None, own_fitting(hall, samples) != [])
                sizes.add(None if found is None else len(found))
        self.assertGreaterEqual(sizes, {None, 2, 3})

    def test_samples_that_no_order_makes(self):
        some = 0
        for seed, hall in enumerate(halls()):
            for samples in some_samples(hall, seed):
                if len(samples) <= 4:
                    some += 1
                    self.assertEqual(sample_fault(hall, samples), own_fault(hall, samples))
        self.assertGreater(some, 100)

    def test_by_hand(self):
        by_abc, by_bac, never = ((1, 0, 0), (0, 0, 0)), ((1, 0, 0), (1, 1, 1)), ((1, 0, 0), (0, 1, 0))
        self.assertIsNone(sample_fault(H, ()))
        self.assertIsNone(sample_fault(H, (by_abc,) * 10))
        self.assertEqual(sample_fault(H, (by_abc, by_abc, by_bac)), (0, 2))
        self.assertEqual(sample_fault(H, (by_abc, by_bac, by_abc, never)), (3,))
        self.assertEqual(sample_fault(H, (never, never)), (0,))
        self.assertEqual(sample_fault(H, (by_abc,) * 9 + (by_bac,)), (0, 9))
        for found in (sample_fault(H, (by_abc, by_bac)), sample_fault(H, (never,))):
            self.assertIs(type(found), tuple)

    def test_each_three_of_all_that_orders_make(self):
        web = (("a", "b", "c"), (("a", "b"), ("b", "c"), ("c", "a")))
        hall = (2, web, (("copy", "c"), ("copy", "a"), ("copy", "b")))
        apart = [(state, own.day_of(hall, order, state)) for order in own.orders_of(web) for state in own.states_of(hall)]
        found = set()
        for samples in itertools.combinations(sorted(set(apart)), 3):
            fault = sample_fault(hall, samples)
            self.assertEqual(fault, own_fault(hall, samples))
            found.add(fault)
        self.assertGreaterEqual(found, {None, (0, 1), (0, 2), (1, 2)})

    def test_ten_samples_and_eleven(self):
        sample = ((1, 0, 0), (0, 0, 0))
        self.assertIsNone(sample_fault(H, (sample,) * 10))
        for many in (11, 20):
            with self.assertRaises(TooMany):
                sample_fault(H, (sample,) * many)
            with self.assertRaises(TooMany):
                sample_fault(H, (((1, 0, 0), (0, 1, 0)),) * many)
            with self.assertRaises(BadSamples):
                sample_fault(H, (sample,) * (many - 1) + (None,))
        with self.assertRaises(BadSamples):
            sample_fault(H, (sample,) * 21)
        with self.assertRaises(BadHall):
            sample_fault(H[:2], (sample,) * 11)

    def test_eight_places(self):
        hall = own.some_hall(own.EIGHT_WITH_RINGS, 2, 6)
        orders = own.some_orders(hall[1], 10)
        states = own.states_of(hall)[5::26]
        samples = tuple((state, own.day_of(hall, order, state)) for state, order in zip(states, orders))
        self.assertEqual(len(samples), 10)
        found = sample_fault(hall, samples)
        self.assertEqual(fitting_arrows(hall, tuple(samples[at] for at in found)), [])
        for at in found:
            self.assertNotEqual(fitting_arrows(hall, tuple(samples[other] for other in found if other != at)), [])


if __name__ == "__main__":
    unittest.main()
