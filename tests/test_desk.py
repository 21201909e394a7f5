"""The desk: rows and their answers."""

import inspect
import random
import unittest

from eachinturn.desk import Desk
from eachinturn.errors import (
    BadCommand, BadCount, BadIndex, BadOrder, BadPlace, BadState, Full, NothingToUndo, TurnError,
)
from eachinturn.session import Session
from tests import own
from tests.helpers import H, WEB, Hostile, LikeAll, never_right
from tests.test_session import told

ABC, ONE = ("a", "b", "c"), (1, 0, 0)
SIXTY = "9" * 60


class AnswersTest(unittest.TestCase):
    def check(self, *rows):
        desk = Desk()
        for row, answer in rows:
            self.assertEqual(desk.say(row), answer, row)

    def test_the_start(self):
        self.check(
            ("state", "1 0 0"), ("order", "a b c"), ("days", "0"), ("ring", "1 1"), ("rest", "1"), ("staying", "2"),
            ("alike a b c", "yes"), ("class a b c", "yes"), ("state", "1 0 0"), ("days", "0"),
        )
        self.assertEqual(Desk().session(), Session(H, ABC, ONE))

    def test_pass(self):
        self.check(
            ("pass 1", "ok"), ("state", "0 0 0"), ("days", "1"), ("pass 1000000000", "ok"), ("days", "1000000001"),
            ("pass 7", "ok"), ("days", "1000000008"), ("undo", "ok"), ("days", "1000000001"), ("undo", "ok"),
            ("undo", "ok"), ("days", "0"), ("state", "1 0 0"),
        )

    def test_turn(self):
        self.check(
            ("turn", "ok"), ("order", "b c a"), ("state", "0 0 0"), ("days", "0"), ("turn", "ok"), ("order", "c a b"),
            ("undo", "ok"), ("order", "b c a"), ("undo", "ok"), ("order", "a b c"), ("state", "1 0 0"),
        )

    def test_swap(self):
        self.check(
            ("turn", "ok"), ("swap 1", "ok"), ("order", "b a c"), ("swap 1", "ok"), ("order", "b c a"), ("turn", "ok"),
            ("swap 0", "ok"), ("order", "a c b"),
        )

    def test_put(self):
        self.check(
            ("put c 1", "ok"), ("state", "1 0 1"), ("put a 0", "ok"), ("state", "0 0 1"), ("put a 0", "ok"),
            ("undo", "ok"), ("state", "0 0 1"), ("undo", "ok"), ("undo", "ok"), ("state", "1 0 0"),
        )

    def test_ring_and_rest(self):
        # by (c, b, a) each state of the hall comes to one that stays; that of the start needs two days
        self.check(
            ("ring", "1 1"), ("rest", "1"), ("turn", "ok"), ("turn", "ok"), ("swap 0", "ok"), ("order", "a c b"),
            ("put a 1", "ok"), ("put b 0", "ok"), ("put c 0", "ok"), ("ring", "1 1"), ("rest", "1"), ("pass 1", "ok"),
            ("ring", "0 1"), ("rest", "0"),
        )

    def test_all_states_and_orders(self):
        rests = set()
        for order in own.orders_of(WEB):
            for state in own.states_of(H):
                desk = self.at(order, state)
                days, ring = own.ring_behind(own.table_of_days(H, order), state)
                self.assertEqual(desk.say("state"), " ".join(str(own_state) for own_state in state))
                self.assertEqual(desk.say("order"), " ".join(order))
                self.assertEqual(desk.say("ring"), f"{days} {len(ring)}")
                self.assertEqual(desk.say("rest"), str(days) if len(ring) == 1 else "never")
                self.assertEqual(desk.say("staying"), "2")
                rests.add(desk.say("rest"))
                for other in own.orders_of(WEB):
                    alike = own.arrows_of(WEB, order) == own.arrows_of(WEB, other)
                    self.assertEqual(desk.say("alike " + " ".join(other)), "yes" if alike else "no")
                    self.assertEqual(desk.say("class " + " ".join(other)), "yes")
        self.assertGreaterEqual(rests, {"0", "1", "2"})

    def at(self, order, state):
        """A desk whose session has this order and this state."""
        desk = Desk()
        # turns and exchanges lead from any order of this web to any other one
        seen, left = {desk.say("order"): []}, [[]]
        while " ".join(order) not in seen:
            rows = left.pop(0)
            for more in ("turn", "swap 0", "swap 1"):
                other = Desk()
                for row in rows:
                    other.say(row)
                try:
                    other.say(more)
                except BadIndex:
                    continue
                if other.say("order") not in seen:
                    seen[other.say("order")] = rows + [more]
                    left.append(rows + [more])
        for row in seen[" ".join(order)]:
            desk.say(row)
        for place, own_state in zip(WEB[0], state):
            desk.say(f"put {place} {own_state}")
        return desk

    def test_answers_are_texts(self):
        desk = Desk()
        for row in ("state", "order", "ring", "rest", "staying", "days", "turn", "undo", "alike b a c", "class b a c"):
            self.assertIs(type(desk.say(row)), str)

    def test_asking_is_no_deed(self):
        desk = Desk()
        for row in ("state", "order", "ring", "rest", "staying", "days", "alike c b a", "class c b a"):
            desk.say(row)
        with self.assertRaises(NothingToUndo):
            desk.say("undo")

    def test_a_rest_that_never_comes(self):
        # whatever the order, the days of the hall H come to rest; the rules are changed here behind the desk's back
        desk = Desk()
        desk._session.rule("a", ("table", (1, 0, 1, 0)))
        self.assertEqual(desk.say("rest"), "never")
        self.assertEqual(desk.say("staying"), "0")

    def test_by_name(self):
        self.assertEqual(Desk().say(row="state"), "1 0 0")
        self.assertEqual(list(inspect.signature(Desk).parameters), [])
        self.assertEqual(list(inspect.signature(Desk().say).parameters), ["row"])
        self.assertEqual(list(inspect.signature(Desk().session).parameters), [])
        self.assertTrue({"say", "session"} <= set(vars(Desk)))


NO_ROWS = [
    "", " ", "  ", "state ", " state", "state  ", "\tstate", "state\t", "state\n", "\nstate", "state\norder", "State", "STATE",
    "states", "stat", "state 1", "state a", "state state", "order a b c", "order ", "Order", "pass", "pass ", "pass  1",
    " pass 1", "pass 1 ", "pass 1 1", "pass\t1", "pass 1\n", "pass\n1", "pass a", "pass -1", "pass +1", "pass 01", "pass 00",
    "pass 1.0", "pass 1_0", "pass 0x1", "pass " + "1" * 61, "pass " + "0" * 60, "pass one", "pass 1e3", "Pass 1", "PASS 1",
    "turn 1", "turn a", "turn ", " turn", "turns", "Turn", "swap", "swap ", "swap 0 1", "swap -0", "swap -1", "swap +0",
    "swap 00", "swap 01", "swap a", "swap a c", "Swap 0", "swap " + "9" * 61, "put", "put a", "put 1", "put a ", "put a  1",
    "put  a 1", "put  1", "put a b", "put a 1 1", "put a 1 ", " put a 1", "put a 01", "put a -1", "put a +1", "put a 1\n",
    "put a\t1", "put a 1\t", "put a " + "1" * 61, "put a", "Put a 1", "put a b 1", "undo 1", "undo ", "Undo", "undo undo",
    "ring 1", "ring a", "ring ", "rest 1", "rest a b c", "rest ", "alike", "alike ", "alike  a b c", "alike a  b c",
    "alike a b c ", " alike a b c", "Alike a b c", "alike\ta b c", "class", "class ", "class a b c ", "class  a", "Class a b c",
    "class\na b c", "staying 1", "staying ", "stays", "Staying", "days 1", "days ", "day", "Days", "0", "a", "a b c", "1 0 0",
    "rule a keep", "copy", "session", "exchange 0", "pass_days 1", "put_", "say state", "\n", "\t", "state  order",
]


class BadCommandTest(unittest.TestCase):
    def test_rows_of_no_form(self):
        desk = Desk()
        for row in NO_ROWS:
            with self.assertRaises(BadCommand):
                desk.say(row)
        self.assertEqual(told(desk.session()), (H, ABC, ONE, 0))

    def test_what_is_no_text(self):
        desk = Desk()
        for row in never_right() + [0, 1, ("state",), ["state"], b"state", {"state": 1}, ("pass", 1), Hostile(), LikeAll()]:
            with self.assertRaises(BadCommand):
                desk.say(row)

    def test_bad_command_comes_first(self):
        desk = Desk()
        for _ in range(50):
            desk.say("turn")
        for row in ("turn 1", "pass 01", "put z 01", "put a", "swap x", "undo 1"):
            with self.assertRaises(BadCommand):
                desk.say(row)


class ErrorsTest(unittest.TestCase):
    def test_those_of_the_session_and_the_functions(self):
        for row, error in (
            ("pass 0", BadCount), ("pass 1000000001", BadCount), ("pass " + SIXTY, BadCount), ("pass 1" + "0" * 59, BadCount),
            ("swap 0", BadIndex), ("swap 1", BadIndex), ("swap 2", BadIndex), ("swap " + SIXTY, BadIndex),
            ("put d 0", BadPlace), ("put d 2", BadPlace), ("put A 0", BadPlace), ("put 1 1", BadPlace),
            ("put ab " + SIXTY, BadPlace), ("put - 0", BadPlace), ("put a 2", BadState), ("put c 3", BadState),
            ("put a " + SIXTY, BadState), ("undo", NothingToUndo), ("alike a", BadOrder), ("alike a b", BadOrder),
            ("alike a b c a", BadOrder), ("alike a b d", BadOrder), ("alike A B C", BadOrder), ("alike a a b", BadOrder),
            ("alike abc", BadOrder), ("class a", BadOrder), ("class a b c c", BadOrder), ("class a b d", BadOrder),
            ("class 0 1 2", BadOrder), ("class - - -", BadOrder), ("put a\n 0", BadPlace), ("alike a b c\n", BadOrder),
            ("class a b\tc", BadOrder),
        ):
            desk = Desk()
            with self.assertRaises(error):
                desk.say(row)
            self.assertEqual(told(desk.session()), (H, ABC, ONE, 0), row)
            with self.assertRaises(NothingToUndo):
                desk.say("undo")

    def test_full(self):
        desk = Desk()
        for _ in range(50):
            self.assertEqual(desk.say("put b 0"), "ok")
        for row, error in (
            ("turn", Full), ("pass 1", Full), ("put a 1", Full), ("pass 0", BadCount), ("put a 2", BadState),
            ("put z 1", BadPlace), ("swap 0", BadIndex), ("alike a", BadOrder),
        ):
            with self.assertRaises(error):
                desk.say(row)
        self.assertEqual(desk.say("state"), "1 0 0")
        self.assertEqual(desk.say("undo"), "ok")
        self.assertEqual(desk.say("turn"), "ok")
        with self.assertRaises(Full):
            desk.say("turn")

    def test_after_errors_nothing_has_changed(self):
        desk = Desk()
        for row in ("pass 3", "turn", "put b 1", "swap 1"):
            desk.say(row)
        ahead = told(desk.session())
        for row in NO_ROWS + ["pass 0", "swap 2", "put d 1", "put a 2", "alike a", "class a b d"]:
            with self.assertRaises(TurnError):
                desk.say(row)
        self.assertEqual(told(desk.session()), ahead)
        for _ in range(4):
            desk.say("undo")
        self.assertEqual(told(desk.session()), (H, ABC, ONE, 0))


class SessionTest(unittest.TestCase):
    def test_a_copy(self):
        desk = Desk()
        desk.say("pass 2")
        some = desk.session()
        self.assertIs(type(some), Session)
        self.assertEqual(told(some), (H, ABC, (0, 0, 0), 2))
        some.put("a", 1)
        some.rule("a", ("keep",))
        self.assertEqual(desk.say("state"), "0 0 0")
        self.assertEqual(told(desk.session()), (H, ABC, (0, 0, 0), 2))
        desk.say("turn")
        self.assertEqual(some.order(), ABC)
        some.undo()
        some.undo()
        some.undo()
        self.assertEqual(told(some), (H, ABC, ONE, 0))
        desk.say("undo")
        self.assertEqual(desk.say("undo"), "ok")
        with self.assertRaises(NothingToUndo):
            desk.say("undo")

    def test_desks_do_not_share(self):
        one, other = Desk(), Desk()
        one.say("turn")
        self.assertEqual(other.say("order"), "a b c")
        self.assertEqual(Desk().say("order"), "a b c")

    def test_against_a_session(self):
        chance = random.Random(7)
        desk, some = Desk(), Session(H, ABC, ONE)
        deeds = {
            "pass": lambda: some.pass_days(number), "swap": lambda: some.exchange(number), "turn": lambda: some.turn(),
            "put": lambda: some.put(place, number), "undo": lambda: some.undo(),
        }
        errors = set()
        for _ in range(1500):
            word = chance.choice(list(deeds) + ["turn", "swap"])
            number, place = chance.randrange(4), chance.choice("aabbccd")
            row = {"pass": f"pass {number}", "swap": f"swap {number}", "put": f"put {place} {number}"}.get(word, word)
            found = expected = "ok"
            try:
                deeds[word]()
            except TurnError as error:
                expected = type(error)
            try:
                found = desk.say(row)
            except TurnError as error:
                found = type(error)
            self.assertEqual(found, expected)
            errors.add(found)
            self.assertEqual(told(desk.session()), told(some))
            self.assertEqual(desk.say("days"), str(some.days()))
            self.assertEqual(desk.say("state"), " ".join(str(part) for part in some.state()))
        self.assertGreaterEqual(errors, {"ok", BadCount, BadIndex, BadPlace, BadState})


if __name__ == "__main__":
    unittest.main()
