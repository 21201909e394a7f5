"""The desk: rows of words that do deeds of a session and tell of it."""

from eachinturn.alike import are_alike
from eachinturn.errors import BadCommand
from eachinturn.session import Session
from eachinturn.staying import days_to_rest, staying
from eachinturn.turning import ring_between

HALL = (2, (("a", "b", "c"), (("a", "b"), ("b", "c"))), (("copy", "b"), ("odd",), ("copy", "b")))
ORDER = ("a", "b", "c")
STATE = (1, 0, 0)

MOST_FIGURES = 60
FIGURES = "0123456789"
# by the first word of a row, what stands behind it: N or PLACE
DEEDS = {"pass": ("N",), "turn": (), "swap": ("N",), "put": ("PLACE", "N"), "undo": ()}
QUESTIONS = ("state", "order", "ring", "rest", "staying", "days")
# behind these one PLACE or more
JUDGES = ("alike", "class")


def _words(row):
    """Return the words of a row; raise BadCommand if this is no row of one of the forms."""
    if not isinstance(row, str) or not _has_form(row.split(" ")):
        raise BadCommand("this is no row for the desk")
    return row.split(" ")


def _has_form(words):
    if "" in words:
        return False
    if words[0] in QUESTIONS:
        return len(words) == 1
    if words[0] in JUDGES:
        return len(words) > 1
    return words[0] in DEEDS and _are_for(words[1:], DEEDS[words[0]])


def _are_for(words, forms):
    if len(words) != len(forms):
        return False
    return all([form == "PLACE" or _is_number(word) for word, form in zip(words, forms)])


def _is_number(word):
    """Tell whether a word, that is not empty, is an N."""
    if len(word) > MOST_FIGURES or not all([sign in FIGURES for sign in word]):
        return False
    return word == "0" or word[0] != "0"


def _joined(parts):
    return " ".join([str(part) for part in parts])


class Desk:
    """A session that is told its deeds, and asked, by rows of words."""

    def __init__(self):
        self._session = Session(HALL, ORDER, STATE)

    def session(self):
        """Return a copy of the session."""
        return self._session.copy()

    def say(self, row):
        """Do what a row says and return the answer."""
        words = _words(row)
        if words[0] in DEEDS:
            self._do(words)
            return "ok"
        if words[0] in JUDGES:
            return "yes" if self._is_like(words[0], tuple(words[1:])) else "no"
        return self._answer(words[0])

    def _do(self, words):
        session = self._session
        if words[0] == "pass":
            session.pass_days(int(words[1]))
        elif words[0] == "turn":
            session.turn()
        elif words[0] == "swap":
            session.exchange(int(words[1]))
        elif words[0] == "put":
            session.put(words[1], int(words[2]))
        else:
            session.undo()

    def _is_like(self, word, order):
        """Tell whether an order is alike to the session's, or of its class."""
        web, own = self._session.hall()[1], self._session.order()
        if word == "alike":
            return are_alike(web, own, order)
        return ring_between(web, own, order) is None

    def _answer(self, word):
        session = self._session
        if word == "state":
            return _joined(session.state())
        if word == "order":
            return _joined(session.order())
        if word == "ring":
            days, ring = session.ring()
            return f"{days} {len(ring)}"
        if word == "rest":
            days = days_to_rest(session.hall(), session.order(), session.state())
            return "never" if days is None else str(days)
        if word == "staying":
            return str(len(staying(session.hall())))
        return str(session.days())
