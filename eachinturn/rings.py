"""Rings of days: the states that come again and again, and what leads to them."""

from eachinturn.halls import every_state, is_state, need_state, state_number
from eachinturn.rules import is_integer
from eachinturn.steps import MOST_DAYS, day_list, far_number, need_count, need_day, need_start, walk


def from_least(ring):
    """Return a ring, a list or a tuple, told from its least entry on."""
    at = ring.index(min(ring))
    return ring[at:] + ring[:at]


def number_rings(numbers):
    """Return the ascending list of the rings of days, as lists of the numbers of their states."""
    found = []
    met = {}
    for start in range(len(numbers)):
        number = start
        while number not in met:
            met[number] = start
            number = numbers[number]
        # a walk that ends in what an earlier one has met brings no further ring
        if met[number] == start:
            found.append(from_least(walk(numbers, number)[0]))
    return sorted(found)


def rings(hall, order):
    """Return the ascending list of the rings of days of an order."""
    need_day(hall, order)
    states = every_state(hall)
    return [_told_ring(states, ring) for ring in number_rings(day_list(hall, order))]


def _told_ring(states, ring):
    return tuple([states[number] for number in ring])


def ring_lengths(hall, order):
    """Return the ascending list of (length, how many rings of days have it)."""
    need_day(hall, order)
    return lengths_of(day_list(hall, order))


def lengths_of(numbers):
    """Return the ring_lengths of an order, numbers being its list of the states behind a day."""
    many = {}
    for ring in number_rings(numbers):
        many[len(ring)] = many.get(len(ring), 0) + 1
    return sorted(list(many.items()))


def ring_of(hall, order, state):
    """Return (days, ring): after how many days the state is on a ring, and which."""
    need_start(hall, order, state)
    way, back = walk(day_list(hall, order), state_number(hall, state))
    return back, _told_ring(every_state(hall), from_least(way[back:]))


def deepest(hall, order):
    """Return (days, state): the most days until a ring, and the first state that needs so many."""
    need_day(hall, order)
    numbers = day_list(hall, order)
    on_rings = {number: True for ring in number_rings(numbers) for number in ring}
    depths = [_days_to(numbers, start, on_rings) for start in range(len(numbers))]
    return max(depths), every_state(hall)[depths.index(max(depths))]


def _days_to(numbers, start, ends):
    days = 0
    while start not in ends:
        start = numbers[start]
        days += 1
    return days


def return_paper(hall, order, state):
    """Return (days, length, state): days until the ring, the ring's length, the state at the end of these days."""
    need_start(hall, order, state)
    way, back = walk(day_list(hall, order), state_number(hall, state))
    return back, len(way) - back, every_state(hall)[way[back]]


def return_holds(hall, order, state, thing):
    """Tell whether thing is the return paper of a state."""
    paper = return_paper(hall, order, state)
    if not isinstance(thing, tuple) or len(thing) != 3:
        return False
    if not is_integer(thing[0]) or not is_integer(thing[1]) or not is_state(hall, thing[2]):
        return False
    return thing == paper


def _need_two(hall, order, state, other):
    need_start(hall, order, state)
    need_state(hall, other)


def same_far(hall, order, state, other, count):
    """Tell whether from both states the same one is at the end of so many days."""
    _need_two(hall, order, state, other)
    need_count(count, MOST_DAYS)
    numbers = day_list(hall, order)
    one = far_number(numbers, state_number(hall, state), count)
    return one == far_number(numbers, state_number(hall, other), count)


def meet(hall, order, state, other):
    """Return the first day, from 0 on, at the end of which two states are the same, None if never."""
    _need_two(hall, order, state, other)
    numbers = day_list(hall, order)
    one, two = state_number(hall, state), state_number(hall, other)
    # on rings they can meet no more, and both are on rings within as many days as there are states
    for count in range(len(numbers)):
        if one == two:
            return count
        one, two = numbers[one], numbers[two]
    return None
