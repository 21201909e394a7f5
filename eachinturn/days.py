"""Days: each place takes its step, one after the other, in the sequence of an order."""

from eachinturn.halls import every_state, need_hall, need_order, need_place, need_state, state_number
from eachinturn.steps import (
    MOST_DAYS, MOST_TOLD, day_list, far_number, need_count, need_day, need_start, passed, stepped,
)


def step(hall, state, place):
    """Return the state in which this place has its next state, all else being as it was."""
    need_hall(hall)
    need_state(hall, state)
    need_place(hall[1], place)
    return stepped(hall, state, place)


def day(hall, order, state):
    """Return the state behind the steps of all places, each seeing what the ones ahead of it have set."""
    need_start(hall, order, state)
    return passed(hall, order, state)


def story(hall, order, state, count):
    """Return the list of the states at the ends of the days from 0 to count."""
    need_start(hall, order, state)
    need_count(count, MOST_TOLD)
    return _told(hall, order, state, count)


def _told(hall, order, state, count):
    numbers = day_list(hall, order)
    states = every_state(hall)
    number = state_number(hall, state)
    told = [state]
    for _ in range(count):
        number = numbers[number]
        told.append(states[number])
    return told


def after(hall, order, state, count):
    """Return the state at the end of so many days."""
    need_start(hall, order, state)
    need_count(count, MOST_DAYS)
    return every_state(hall)[far_number(day_list(hall, order), state_number(hall, state), count)]


def day_table(hall, order):
    """Return the list, by the numbers of the states, of the numbers of the states behind a day."""
    need_day(hall, order)
    return day_list(hall, order)


def ahead_of(hall, order, state):
    """Return the ascending list of the states of which a day makes this one."""
    need_start(hall, order, state)
    wanted = state_number(hall, state)
    return [other for other, number in zip(every_state(hall), day_list(hall, order)) if number == wanted]


def without_past(hall, order):
    """Return the ascending list of the states that a day makes of none."""
    need_day(hall, order)
    made = {number: True for number in day_list(hall, order)}
    return [state for number, state in enumerate(every_state(hall)) if number not in made]


def watched(hall, order, state, place, count):
    """Return the tuple of the states of one place at the ends of the days from 0 to count."""
    need_start(hall, order, state)
    need_place(hall[1], place)
    need_count(count, MOST_TOLD)
    number = hall[1][0].index(place)
    return tuple([told[number] for told in _told(hall, order, state, count)])


def first_unlike_day(hall, order, other, state):
    """Return the first day at the end of which the states by two orders are not the same, None if there is none."""
    need_day(hall, order)
    need_order(hall[1], other)
    need_state(hall, state)
    numbers, others = day_list(hall, order), day_list(hall, other)
    number = state_number(hall, state)
    # as long as the days are alike there is one story alone, and it repeats within so many days
    for count in range(1, len(numbers) + 1):
        if numbers[number] != others[number]:
            return count
        number = numbers[number]
    return None
