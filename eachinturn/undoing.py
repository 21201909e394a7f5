"""Days undone: halls whose steps, and so whose days, can be taken back."""

from eachinturn.errors import BadRules
from eachinturn.halls import every_state, near_of, need_hall, need_order, need_state, state_number
from eachinturn.rules import rule_table
from eachinturn.steps import MOST_DAYS, day_list, day_numbers, need_count, need_day, step_lists, walk


def _blocks(hall, number):
    """Return the parts of a place's table, each for the same neighbours' states, by the own state."""
    k, web, rules = hall
    table = rule_table(rules[number], k, near_of(web, web[0][number]))
    return [table[at:at + k] for at in range(0, len(table), k)]


def _place_can(hall, number):
    """Tell whether the rule of a place can be undone."""
    return all([len(set(block)) == hall[0] for block in _blocks(hall, number)])


def _all_can(hall):
    return all([_place_can(hall, number) for number in range(len(hall[2]))])


def can_be_undone(hall):
    """Tell whether all rules of a hall can be undone."""
    need_hall(hall)
    return _all_can(hall)


def undo_paper(hall):
    """Return None if all rules can be undone, else (place, state, state): states that one step makes the same."""
    need_hall(hall)
    unable = [number for number in range(len(hall[2])) if not _place_can(hall, number)]
    if not unable:
        return None
    number = unable[0]
    states, made = every_state(hall), step_lists(hall)[number]
    pairs = [(state, other) for state in states for other in _greater_owns(hall[0], state, number)]
    alike = [pair for pair in pairs if made[state_number(hall, pair[0])] == made[state_number(hall, pair[1])]]
    return (hall[1][0][number],) + alike[0]


def _greater_owns(k, state, number):
    """Return the states that differ from this one by a greater state of one place alone, ascending."""
    return [state[:number] + (own,) + state[number + 1:] for own in range(state[number] + 1, k)]


def need_undoable(hall):
    """Raise BadHall if this is no hall, BadRules if not all its rules can be undone."""
    need_hall(hall)
    if not _all_can(hall):
        raise BadRules("not all rules of the hall can be undone")


def undone_hall(hall):
    """Return the hall, with tables alone, by which each step takes back that of a hall that can be undone."""
    need_undoable(hall)
    return (hall[0], hall[1], tuple([_undone_rule(hall, number) for number in range(len(hall[2]))]))


def _undone_rule(hall, number):
    table = ()
    for block in _blocks(hall, number):
        table = table + tuple([block.index(own) for own in range(hall[0])])
    return ("table", table)


def _need_undoable_day(hall, order, state):
    need_undoable(hall)
    need_order(hall[1], order)
    need_state(hall, state)


def _before(hall, order, state, count):
    """Return the state so many days earlier. Where days can be undone each state is on a ring."""
    ring = walk(day_list(hall, order), state_number(hall, state))[0]
    return every_state(hall)[ring[-count % len(ring)]]


def day_before(hall, order, state):
    """Return the state of which a day makes this one, in a hall that can be undone."""
    _need_undoable_day(hall, order, state)
    return _before(hall, order, state, 1)


def far_before(hall, order, state, count):
    """Return the state so many days earlier, in a hall that can be undone."""
    _need_undoable_day(hall, order, state)
    need_count(count, MOST_DAYS)
    return _before(hall, order, state, count)


def turned_about(hall, order):
    """Return the ascending list of the states of which a day by the order and one by it backwards make the same."""
    need_day(hall, order)
    steps = step_lists(hall)
    there, back = day_numbers(hall[1], steps, order), day_numbers(hall[1], steps, order[::-1])
    return [state for at, state in enumerate(every_state(hall)) if there[at] == back[at]]
