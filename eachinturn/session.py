"""Sessions: a hall, an order and a state that deeds change, each of which can be taken back."""

from eachinturn.errors import BadCount, BadIndex, BadRule, BadState, Full, NothingToUndo
from eachinturn.halls import every_state, near_of, need_place, state_number
from eachinturn.orders import behind_exchange, can_exchange
from eachinturn.rings import ring_of
from eachinturn.rules import is_integer, is_rule
from eachinturn.staying import stays
from eachinturn.steps import day_list, far_number, need_start, stepped

MOST_AT_ONCE = 10 ** 9
MOST_DEEDS = 50


class Session:
    """A hall, an order and a state, with the deeds that are in force."""

    def __init__(self, hall, order, state):
        need_start(hall, order, state)
        self._hall = hall
        self._order = order
        self._state = state
        self._days = 0
        # what hall, order, state and days were ahead of each deed in force
        self._past = []

    def __eq__(self, other):
        return (
            isinstance(other, Session) and self._hall == other._hall and self._order == other._order
            and self._state == other._state
        )

    def _begin(self):
        """Put a deed in force, of which nothing else is wrong: what there is now is what there was ahead of it."""
        if len(self._past) == MOST_DEEDS:
            raise Full("there are fifty deeds in force")
        self._past.append((self._hall, self._order, self._state, self._days))

    def pass_days(self, count):
        """Let so many days pass."""
        if not is_integer(count) or not 1 <= count <= MOST_AT_ONCE:
            raise BadCount("this is no integer from 1 to a thousand millions")
        self._begin()
        numbers, start = day_list(self._hall, self._order), state_number(self._hall, self._state)
        self._state = every_state(self._hall)[far_number(numbers, start, count)]
        self._days = self._days + count

    def turn(self):
        """Let who is first in the order go last, the state carried."""
        self._begin()
        self._state = stepped(self._hall, self._state, self._order[0])
        self._order = self._order[1:] + self._order[:1]

    def exchange(self, index):
        """Exchange the places at the index and next behind it in the order, if there is no road between them."""
        if not is_integer(index) or not can_exchange(self._hall[1], self._order, index):
            raise BadIndex("there are no two places that may be exchanged")
        self._begin()
        self._order = behind_exchange(self._order, index)

    def put(self, place, state):
        """Give a place a state."""
        k, web, _ = self._hall
        need_place(web, place)
        if not is_integer(state) or not 0 <= state < k:
            raise BadState("this is no state of a place")
        self._begin()
        self._state = _with(self._state, web[0].index(place), state)

    def rule(self, place, rule):
        """Give a place a rule."""
        k, web, rules = self._hall
        need_place(web, place)
        if not is_rule(rule, k, near_of(web, place)):
            raise BadRule("this is no rule of the place")
        self._begin()
        self._hall = (k, web, _with(rules, web[0].index(place), rule))

    def undo(self):
        """Take back the last deed in force."""
        if not self._past:
            raise NothingToUndo("there is no deed in force")
        self._hall, self._order, self._state, self._days = self._past.pop()

    def hall(self):
        """Return the hall."""
        return self._hall

    def order(self):
        """Return the order."""
        return self._order

    def state(self):
        """Return the state."""
        return self._state

    def days(self):
        """Return the sum of the counts of the pass_days in force."""
        return self._days

    def ring(self):
        """Return (days, ring): after how many days the state is on a ring of days, and which."""
        return ring_of(self._hall, self._order, self._state)

    def rested(self):
        """Tell whether the state stays."""
        return stays(self._hall, self._state)

    def copy(self):
        """Return an equal session that goes its own way and can take back the same deeds."""
        other = Session(self._hall, self._order, self._state)
        other._days = self._days
        other._past = list(self._past)
        return other


def _with(parts, at, part):
    """Return a tuple with another part at this index."""
    return parts[:at] + (part,) + parts[at + 1:]
