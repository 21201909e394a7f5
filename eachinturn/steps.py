"""Steps and days, of single states and of all states by their numbers: what several modules reckon with.

Nothing here looks whether its arguments are right but for what begins with need.
"""

from eachinturn.errors import BadCount
from eachinturn.halls import every_state, near_of, need_hall, need_order, need_state
from eachinturn.rules import is_integer, next_state, power

MOST_TOLD = 500
MOST_DAYS = 10 ** 30


def need_count(count, most):
    """Raise BadCount if this is no integer from 0 to most."""
    if not is_integer(count) or not 0 <= count <= most:
        raise BadCount("this is no integer within the bounds")


def need_day(hall, order):
    """Raise the error of the first of a hall and an order of it that is not right."""
    need_hall(hall)
    need_order(hall[1], order)


def need_start(hall, order, state):
    """Raise the error of the first of a hall, an order and a state of it that is not right."""
    need_day(hall, order)
    need_state(hall, state)


def _looks_at(web, number):
    """Return the neighbours of a place and the numbers of the places that its rule looks at, its own first."""
    near = near_of(web, web[0][number])
    return near, [number] + [web[0].index(place) for place in near]


def stepped(hall, state, place):
    """Return the state behind the step of a place."""
    k, web, rules = hall
    number = web[0].index(place)
    near, seen = _looks_at(web, number)
    own = next_state(rules[number], k, near, [state[at] for at in seen])
    return state[:number] + (own,) + state[number + 1:]


def passed(hall, order, state):
    """Return the state behind a day."""
    for place in order:
        state = stepped(hall, state, place)
    return state


def step_lists(hall):
    """Return, for each place, the list of the numbers of the states behind its step."""
    states = every_state(hall)
    return [_step_list(hall, states, number) for number in range(len(hall[2]))]


def _step_list(hall, states, number):
    k, web, rules = hall
    near, seen = _looks_at(web, number)
    # a state's number is made of its digits by k, so that another own state moves it by this much
    worth = power(k, len(web[0]) - 1 - number)
    owns = [next_state(rules[number], k, near, [state[at] for at in seen]) for state in states]
    return [at + (own - states[at][number]) * worth for at, own in enumerate(owns)]


def day_numbers(web, steps, order):
    """Return the list of the numbers of the states behind a day, steps being the hall's step_lists."""
    return numbers_behind(web, steps, order, list(range(len(steps[0]))))


def numbers_behind(web, steps, order, numbers):
    """Return the list of the numbers of the states behind a day of the states with these numbers."""
    for place in order:
        made = steps[web[0].index(place)]
        numbers = [made[number] for number in numbers]
    return numbers


def day_list(hall, order):
    """Return the list of the numbers of the states behind a day, of a hall."""
    return day_numbers(hall[1], step_lists(hall), order)


def walk(numbers, start):
    """Return (way, back): the numbers from start on, each once, and the index of the one that then comes again.

    numbers is the list of the numbers of the states behind a day.
    """
    way = []
    seen = {}
    while start not in seen:
        seen[start] = len(way)
        way.append(start)
        start = numbers[start]
    return way, seen[start]


def rest_day(numbers, start):
    """Return the first day at the end of which a state stays, None if it never comes to one that does."""
    way, back = walk(numbers, start)
    # what stays is a ring by itself
    return back if len(way) - back == 1 else None


def far_number(numbers, start, count):
    """Return the number of the state at the end of so many days."""
    way, back = walk(numbers, start)
    if count < len(way):
        return way[count]
    return way[back + (count - back) % (len(way) - back)]
