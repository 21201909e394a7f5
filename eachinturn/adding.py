"""Adding halls, whose days of sums are the sums of the days, and rounds of halls that can be undone."""

from math import lcm

from eachinturn.errors import BadRules
from eachinturn.halls import every_state, need_hall, need_order, need_state, state_number
from eachinturn.rings import lengths_of
from eachinturn.steps import MOST_DAYS, day_list, far_number, need_count
from eachinturn.undoing import need_undoable

ADDING_SORTS = ("odd", "keep", "copy")


def _need_adding_day(hall, order):
    """Raise the error of the first of a hall, that must be an adding one, and an order that is not right."""
    need_hall(hall)
    if not all([rule[0] in ADDING_SORTS for rule in hall[2]]):
        raise BadRules("this is no adding hall")
    need_order(hall[1], order)


def _units(hall):
    """Return, for each place, the state in which it alone has 1 and all others have 0."""
    many = len(hall[2])
    return [tuple([1 if at == number else 0 for at in range(many)]) for number in range(many)]


def _matrix(hall, order, count):
    """Return the matrix of so many days: its columns are what these days make of the units."""
    states, numbers = every_state(hall), day_list(hall, order)
    columns = [states[far_number(numbers, state_number(hall, unit), count)] for unit in _units(hall)]
    return tuple([tuple([column[row] for column in columns]) for row in range(len(columns))])


def day_matrix(hall, order):
    """Return the rows by which the states ahead of a day are multiplied and added to those behind it."""
    _need_adding_day(hall, order)
    return _matrix(hall, order, 1)


def matrix_power(hall, order, count):
    """Return the rows by which the states are multiplied and added to those behind so many days."""
    _need_adding_day(hall, order)
    need_count(count, MOST_DAYS)
    return _matrix(hall, order, count)


def sum_of(hall, state, other):
    """Return the sum of two states, place by place, the remainders by k."""
    need_hall(hall)
    need_state(hall, state)
    need_state(hall, other)
    return tuple([(one + two) % hall[0] for one, two in zip(state, other)])


def kernel(hall, order):
    """Return the ascending list of the states of which a day makes the state of noughts."""
    _need_adding_day(hall, order)
    return [state for state, number in zip(every_state(hall), day_list(hall, order)) if number == 0]


def least_round(hall, order):
    """Return the least number of days, from 1 on, behind which every state is what it was."""
    need_undoable(hall)
    need_order(hall[1], order)
    days = 1
    for length, _ in lengths_of(day_list(hall, order)):
        days = lcm(days, length)
    return days
