"""Sessions: deeds, deeds taken back, copies."""

import gc
import inspect
import random
import unittest
import weakref

from eachinturn.errors import (
    BadCount, BadHall, BadIndex, BadOrder, BadPlace, BadRule, BadState, Full, NothingToUndo, TurnError,
)
from eachinturn.session import Session
from tests import own
from tests.helpers import EVERY_SORT, H, THREE_STATES, WEB, Hostile, LikeAll, as_lists, never_right, odd_objects
from tests.test_days import COUNTER, DIGITS

ABC, BAC = ("a", "b", "c"), ("b", "a", "c")
ONE = (1, 0, 0)


def session():
    return Session(H, ABC, ONE)


def told(some):
    """All that a session tells of what deeds change."""
    return some.hall(), some.order(), some.state(), some.days()


class Model:
    """A second session, slow and plain; it takes what is right alone."""

    def __init__(self, hall, order, state):
        self.now = (hall, order, state, 0)
        self.past = []

    def do(self, word, *more):
        if word == "undo":
            self.now = self.past.pop()
            return
        self.past.append(self.now)
        hall, order, state, days = self.now
        k, (places, _), rules = hall
        if word == "pass_days":
            ahead, ring = own.ring_behind(own.table_of_days(hall, order), state)
            count = more[0]
            state = own.story_of(hall, order, state, count if count < ahead else ahead + (count - ahead) % len(ring))[-1]
            days += count
        elif word == "turn":
            state, order = own.step_of(hall, state, order[0]), order[1:] + order[:1]
        elif word == "exchange":
            order = own.exchanged(hall[1], order, more[0])
            assert order is not None
        elif word == "put":
            state = tuple(more[1] if place == more[0] else part for place, part in zip(places, state))
        else:
            hall = (k, hall[1], tuple(more[1] if place == more[0] else rule for place, rule in zip(places, rules)))
        self.now = (hall, order, state, days)


def some_deed(chance, model):
    """A deed that can be done, or what undoes one."""
    (k, web, _), order, _, _ = model.now
    free = [index for index in range(len(order) - 1) if not own.joined(web, order[index], order[index + 1])]
    words = ["pass_days", "turn", "put", "rule"] + ["exchange"] * bool(free) + ["undo"] * 2 * bool(model.past)
    if len(model.past) == 50:
        words = ["undo"]
    word = chance.choice(words)
    place = chance.choice(web[0])
    if word == "pass_days":
        return word, chance.choice([1, 1, 2, 3, 10 ** 9, chance.randrange(1, 1000)])
    if word == "exchange":
        return word, chance.choice(free)
    if word == "put":
        return word, place, chance.randrange(k)
    if word == "rule":
        return word, place, own.some_rule(chance, k, own.near(web, place))
    return (word,)


def some_starts():
    halls = list(own.small_halls(many=1)) + [EVERY_SORT, THREE_STATES]
    for seed, hall in enumerate(halls):
        chance = random.Random(seed)
        order = own.some_orders(hall[1], 1, seed)[0]
        yield chance, (hall, order, chance.choice(own.states_of(hall)))


class DeedsTest(unittest.TestCase):
    def check(self, some, model):
        self.assertEqual(told(some), model.now)
        hall, order, state, _ = model.now
        days, ring = own.ring_behind(own.table_of_days(hall, order), state)
        least = ring.index(min(ring))
        self.assertEqual(some.ring(), (days, tuple(ring[least:] + ring[:least])))
        self.assertIs(some.rested(), own.stays_in(hall, state))

    def test_deeds_in_all_sequences(self):
        words = set()
        for chance, start in some_starts():
            some, model = Session(*start), Model(*start)
            self.check(some, model)
            for _ in range(25):
                word, *more = some_deed(chance, model)
                words.add(word)
                self.assertIsNone(getattr(some, word)(*more))
                model.do(word, *more)
                self.check(some, model)
        self.assertEqual(words, {"pass_days", "turn", "exchange", "put", "rule", "undo"})

    def test_the_start(self):
        some = session()
        self.assertEqual(told(some), (H, ABC, ONE, 0))
        self.assertEqual(some.ring(), (1, ((0, 0, 0),)))
        self.assertIs(some.rested(), False)
        self.assertIs(Session(H, ABC, (1, 1, 1)).rested(), True)
        with self.assertRaises(NothingToUndo):
            some.undo()

    def test_kinds_of_what_is_told(self):
        some = session()
        some.pass_days(2)
        some.turn()
        for thing in (some.hall(), some.order(), some.state(), some.ring()):
            self.assertIs(type(thing), tuple)
        self.assertIs(type(some.days()), int)

    def test_pass_days(self):
        for count in (1, 2, 3, 31, 32, 33, 10 ** 9, 10 ** 9 - 1):
            some = Session(COUNTER, DIGITS[::-1], (0,) * 5)
            self.assertIsNone(some.pass_days(count))
            self.assertEqual(some.state(), tuple(count >> at & 1 for at in range(5)))
            self.assertEqual(some.days(), count)
            some.pass_days(count=10 ** 9)
            self.assertEqual(some.days(), count + 10 ** 9)
            self.assertEqual(some.state(), tuple(count + 10 ** 9 >> at & 1 for at in range(5)))

    def test_what_is_no_count(self):
        some = session()
        wrong = [thing for thing in never_right() if type(thing) is not int or not 1 <= thing <= 10 ** 9]
        for count in wrong + [0, -1, 10 ** 9 + 1, 10 ** 30, True, "1", (1,)]:
            with self.assertRaises(BadCount):
                some.pass_days(count)
        self.assertEqual(told(some), (H, ABC, ONE, 0))

    def test_turn(self):
        some = session()
        some.turn()
        # a copies b and goes last
        self.assertEqual(told(some), (H, ("b", "c", "a"), (0, 0, 0), 0))
        some = Session(H, BAC, ONE)
        some.turn()
        self.assertEqual(told(some), (H, ("a", "c", "b"), (1, 1, 0), 0))

    def test_as_many_turns_as_places_are_a_day(self):
        for _, start in some_starts():
            some, other = Session(*start), Session(*start)
            for _ in start[1]:
                some.turn()
            other.pass_days(1)
            self.assertEqual(told(some)[:3], told(other)[:3])
            self.assertEqual((some.days(), other.days()), (0, 1))
            self.assertEqual(some, other)

    def test_exchange(self):
        some = Session(H, ("a", "c", "b"), ONE)
        self.assertIsNone(some.exchange(0))
        self.assertEqual(told(some), (H, ("c", "a", "b"), ONE, 0))
        some.exchange(index=0)
        self.assertEqual(told(some), (H, ("a", "c", "b"), ONE, 0))
        no_roads = Session((2, (ABC, ()), (("keep",),) * 3), ABC, ONE)
        no_roads.exchange(1)
        self.assertEqual(no_roads.order(), ("a", "c", "b"))

    def test_what_is_no_index(self):
        some = Session(H, ("a", "c", "b"), ONE)
        wrong = [thing for thing in odd_objects() if type(thing) is not int or thing != 0]
        for index in wrong + [1, 2, 3, -1, -2, -3, 10 ** 30, True, False, "0", (0,), [0], None]:
            with self.assertRaises(BadIndex):
                some.exchange(index)
        self.assertEqual(told(some), (H, ("a", "c", "b"), ONE, 0))
        for index in (0, 1, 2, -1):
            with self.assertRaises(BadIndex):
                session().exchange(index)
        with self.assertRaises(BadIndex):
            Session((2, (("q",), ()), (("keep",),)), ("q",), (0,)).exchange(0)

    def test_put(self):
        some = session()
        some.put("c", 1)
        self.assertEqual(told(some), (H, ABC, (1, 0, 1), 0))
        some.put(state=1, place="b")
        self.assertEqual(some.state(), (1, 1, 1))
        some.put("a", 0)
        self.assertEqual(some.state(), (0, 1, 1))
        three = Session(THREE_STATES, ("a", "b", "q", "p1"), (0, 0, 0, 0))
        three.put("p1", 2)
        self.assertEqual(three.state(), (0, 0, 2, 0))

    def test_put_with_wrong_arguments(self):
        some = session()
        for place in odd_objects() + ["d", "A", "ab", 0, ("a",)]:
            for state in (0, 1, 2, None, Hostile(), True):
                with self.assertRaises(BadPlace):
                    some.put(place, state)
        for state in never_right() + [2, 3, -1, True, False, "1", (1,), 10 ** 59]:
            with self.assertRaises(BadState):
                some.put("b", state)
        self.assertEqual(told(some), (H, ABC, ONE, 0))

    def test_rule(self):
        some = session()
        self.assertIsNone(some.rule("b", ("most", 2)))
        self.assertEqual(some.hall(), (2, WEB, (("copy", "b"), ("most", 2), ("copy", "b"))))
        some.rule(rule=("table", (0, 1, 1, 0)), place="a")
        self.assertEqual(some.hall(), (2, WEB, (("table", (0, 1, 1, 0)), ("most", 2), ("copy", "b"))))
        some.rule("c", ("keep",))
        self.assertEqual(some.hall(), (2, WEB, (("table", (0, 1, 1, 0)), ("most", 2), ("keep",))))
        self.assertEqual(told(some)[1:], (ABC, ONE, 0))

    def test_rule_with_wrong_arguments(self):
        some = session()
        for place in odd_objects() + ["d", "A"]:
            for rule in (("keep",), None, Hostile()):
                with self.assertRaises(BadPlace):
                    some.rule(place, rule)
        near = [
            ("keep", 1), ("copy", "c"), ("copy", "a"), ("copy",), ("most", 10), ("most", True), ("most", -1), ["keep"],
            ("table", (0, 1)), ("table", (0, 1, 1, 2)), ("table", [0, 1, 1, 0]), ("table", (0, 1, True, 0)), "keep",
            ("sum", ((0, 1), (0, 1, 1))), ("sum", ((0, 1),)), ("none",), (("keep",),), ("least", ()), ("odd", None),
        ]
        for rule in near + never_right() + list(as_lists(("sum", ((0, 1), (1, 0))))):
            with self.assertRaises(BadRule):
                some.rule("a", rule)
        # right for b, that has two neighbours, but not for a
        some.rule("b", ("copy", "c"))
        some.rule("b", ("table", (0,) * 8))
        with self.assertRaises(BadRule):
            some.rule("a", ("table", (0,) * 8))
        with self.assertRaises(BadRule):
            some.rule("b", ("copy", "b"))

    def test_deeds_that_change_nothing_are_in_force(self):
        some = Session((2, (ABC, ()), (("keep",),) * 3), ABC, ONE)
        ahead = told(some)
        some.put("a", 1)
        some.rule("b", ("keep",))
        self.assertEqual(told(some), ahead)
        some.turn()
        some.turn()
        some.turn()
        self.assertEqual(told(some), ahead)
        some.pass_days(1)
        self.assertEqual(told(some), ahead[:3] + (1,))
        for _ in range(6):
            some.undo()
        self.assertEqual(told(some), ahead)
        with self.assertRaises(NothingToUndo):
            some.undo()


class UndoTest(unittest.TestCase):
    def test_back_through_all_deeds(self):
        for chance, start in some_starts():
            some, model = Session(*start), Model(*start)
            were = []
            while len(model.past) < 50:
                word, *more = some_deed(chance, model)
                if word != "undo":
                    were.append(told(some))
                    getattr(some, word)(*more)
                    model.do(word, *more)
            for expected in were[::-1]:
                self.assertIsNone(some.undo())
                self.assertEqual(told(some), expected)
            for _ in range(2):
                with self.assertRaises(NothingToUndo):
                    some.undo()
            self.assertEqual(told(some), start + (0,))

    def test_days_in_force(self):
        some = session()
        for count in (3, 10, 10 ** 9):
            some.pass_days(count)
            some.turn()
        self.assertEqual(some.days(), 13 + 10 ** 9)
        days = []
        for _ in range(6):
            some.undo()
            days.append(some.days())
        self.assertEqual(days, [13 + 10 ** 9, 13, 13, 3, 3, 0])

    def test_undo_is_no_deed(self):
        some = session()
        for _ in range(120):
            some.turn()
            some.undo()
        self.assertEqual(told(some), (H, ABC, ONE, 0))
        with self.assertRaises(NothingToUndo):
            some.undo()


class FullTest(unittest.TestCase):
    def full(self):
        some = Session((2, (ABC, ()), H[2][1:2] * 3), ABC, ONE)
        for at in range(50):
            some.put("a", at % 2)
        return some

    def test_the_fifty_first_deed(self):
        for word, more in (
            ("pass_days", (1,)), ("turn", ()), ("exchange", (0,)), ("put", ("b", 1)), ("rule", ("a", ("keep",))),
        ):
            some = self.full()
            ahead = told(some)
            for _ in range(2):
                with self.assertRaises(Full):
                    getattr(some, word)(*more)
                self.assertEqual(told(some), ahead)
            some.undo()
            self.assertIsNone(getattr(some, word)(*more))
            with self.assertRaises(Full):
                getattr(some, word)(*more)

    def test_behind_all_other_errors(self):
        some = self.full()
        for word, more, error in (
            ("pass_days", (0,), BadCount), ("pass_days", (None,), BadCount), ("pass_days", (True,), BadCount),
            ("exchange", (2,), BadIndex), ("exchange", (True,), BadIndex), ("put", ("z", 0), BadPlace),
            ("put", ("a", 2), BadState), ("put", ("a", True), BadState), ("rule", ("z", None), BadPlace),
            ("rule", ("a", ("copy", "b")), BadRule), ("rule", ("a", None), BadRule),
        ):
            with self.assertRaises(error):
                getattr(some, word)(*more)

    def test_each_of_the_fifty_can_be_taken_back(self):
        some = self.full()
        for _ in range(50):
            some.undo()
        with self.assertRaises(NothingToUndo):
            some.undo()
        self.assertEqual(some.state(), ONE)

    def test_deeds_of_each_kind_count(self):
        some = Session(H, ("a", "c", "b"), ONE)
        for _ in range(10):
            some.pass_days(1)
            some.exchange(0)
            some.put("a", 0)
            some.rule("a", ("odd",))
            some.exchange(0)
        with self.assertRaises(Full):
            some.turn()


class AfterErrorTest(unittest.TestCase):
    def test_nothing_has_changed(self):
        some = session()
        some.pass_days(2)
        some.put("c", 1)
        ahead, ring = told(some), some.ring()
        for word, more in (
            ("pass_days", (0,)), ("pass_days", (10 ** 9 + 1,)), ("exchange", (0,)), ("exchange", (1,)), ("exchange", (5,)),
            ("put", ("d", 0)), ("put", ("a", 2)), ("rule", ("d", ("keep",))), ("rule", ("a", ("copy", "c"))),
        ):
            with self.assertRaises(TurnError):
                getattr(some, word)(*more)
            self.assertEqual((told(some), some.ring()), (ahead, ring))
        some.undo()
        some.undo()
        self.assertEqual(told(some), (H, ABC, ONE, 0))


class EqualTest(unittest.TestCase):
    def test_by_hall_order_and_state(self):
        one, other = session(), session()
        self.assertIs(one == other, True)
        self.assertIs(one != other, False)
        for changed in (
            Session((2, WEB, H[2][:2] + (("keep",),)), ABC, ONE), Session(H, BAC, ONE), Session(H, ABC, (0, 0, 0)),
            Session((3,) + H[1:], ABC, ONE), Session((2, (ABC, WEB[1][::-1]), H[2]), ABC, ONE),
        ):
            self.assertIs(one == changed, False)
            self.assertIs(changed == one, False)
            self.assertIs(one != changed, True)

    def test_days_and_deeds_do_not_count(self):
        one, other = Session(H, ABC, (0, 0, 0)), Session(H, ABC, (0, 0, 0))
        other.pass_days(5)
        other.put("a", 1)
        self.assertIs(one == other, False)
        other.put("a", 0)
        self.assertIs(one == other, True)

    def test_nothing_else(self):
        some = session()
        for thing in odd_objects() + [H, (H, ABC, ONE), told(some), [H, ABC, ONE]]:
            if not isinstance(thing, (LikeAll, Hostile)):
                self.assertIs(some == thing, False)
                self.assertIs(some != thing, True)
                self.assertIs(thing == some, False)
        self.assertIs(some == LikeAll(), False)
        self.assertIs(some == Hostile(), False)


class CopyTest(unittest.TestCase):
    def test_it_goes_its_own_way(self):
        one = session()
        one.pass_days(3)
        other = one.copy()
        self.assertIs(type(other), Session)
        self.assertIsNot(one, other)
        self.assertIs(one == other, True)
        self.assertEqual(told(one), told(other))
        ahead = told(one)
        other.put("b", 1)
        other.turn()
        other.rule("a", ("keep",))
        self.assertEqual(told(one), ahead)
        behind = told(other)
        one.turn()
        one.undo()
        one.undo()
        self.assertEqual(told(other), behind)
        self.assertEqual(told(one), (H, ABC, ONE, 0))

    def test_it_takes_back_the_same_deeds(self):
        for chance, start in some_starts():
            one, model = Session(*start), Model(*start)
            for _ in range(12):
                word, *more = some_deed(chance, model)
                getattr(one, word)(*more)
                model.do(word, *more)
            copies = [one.copy(), one.copy().copy(), one.copy().copy().copy()]
            one.put(start[1][0], 0)
            for expected in model.past[::-1]:
                for other in copies:
                    other.undo()
                    self.assertEqual(told(other), expected)
            for other in copies:
                with self.assertRaises(NothingToUndo):
                    other.undo()
            self.assertEqual(told(one)[:2], model.now[:2])

    def test_a_full_one(self):
        one = session()
        for _ in range(50):
            one.turn()
        other = one.copy()
        with self.assertRaises(Full):
            other.turn()
        other.undo()
        other.turn()
        with self.assertRaises(Full):
            one.turn()
        for _ in range(50):
            other.undo()
        self.assertEqual(told(other), (H, ABC, ONE, 0))


class ArgumentsTest(unittest.TestCase):
    def test_the_start_with_wrong_arguments(self):
        right = {"hall": H, "order": ABC, "state": ONE}
        wrongs = {
            "hall": ([None, H[:2], list(H), Hostile(), WEB], BadHall),
            "order": ([None, ("a", "b"), ["a", "b", "c"], Hostile(), LikeAll()], BadOrder),
            "state": ([None, (1, 0), [1, 0, 0], (1, 0, True), Hostile(), (0, 0, 2)], BadState),
        }
        names = list(wrongs)
        for at, name in enumerate(names):
            for number, wrong in enumerate(wrongs[name][0] + odd_objects()):
                for later in (names[at + 1:], names[at + 1:at + 2], []):
                    changed = {**right, name: wrong}
                    changed.update({other: wrongs[other][0][number % 5] for other in later})
                    with self.assertRaises(wrongs[name][1]):
                        Session(**changed)
                    with self.assertRaises(wrongs[name][1]):
                        Session(*changed.values())

    def test_by_position_and_by_name(self):
        self.assertEqual(Session(state=ONE, hall=H, order=ABC), Session(H, ABC, ONE))
        self.assertEqual(list(inspect.signature(Session).parameters), ["hall", "order", "state"])
        for word, names in (
            ("pass_days", ["count"]), ("turn", []), ("exchange", ["index"]), ("put", ["place", "state"]),
            ("rule", ["place", "rule"]), ("undo", []), ("hall", []), ("order", []), ("state", []), ("days", []),
            ("ring", []), ("rested", []), ("copy", []),
        ):
            self.assertIn(word, vars(Session))
            self.assertEqual(list(inspect.signature(getattr(session(), word)).parameters), names)
        self.assertIn("__eq__", vars(Session))

    def test_no_reference_is_kept(self):
        for deed in (
            lambda some, thing: some.pass_days(thing), lambda some, thing: some.exchange(thing),
            lambda some, thing: some.put(thing, 0), lambda some, thing: some.put("a", thing),
            lambda some, thing: some.rule(thing, ("keep",)), lambda some, thing: some.rule("a", thing),
        ):
            some, held = session(), Hostile()
            seen = weakref.ref(held)
            for thing in (held, (held,), [held], (held, held)):
                with self.assertRaises(TurnError):
                    deed(some, thing)
            del held, thing
            gc.collect(0)
            self.assertIsNone(seen())

    def test_what_is_returned_and_handed_in_stays(self):
        hall, order, state = H, ABC, ONE
        some = Session(hall, order, state)
        for _ in range(3):
            self.assertEqual((some.hall(), some.order(), some.state(), some.days()), (H, ABC, ONE, 0))
            self.assertEqual(some.ring(), (1, ((0, 0, 0),)))
        some.turn()
        self.assertEqual((hall, order, state), (H, ("a", "b", "c"), (1, 0, 0)))


if __name__ == "__main__":
    unittest.main()
