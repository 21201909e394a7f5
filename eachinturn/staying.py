"""States that stay: each place's next state is its own. They are the same for every order."""

from eachinturn.errors import BadState
from eachinturn.halls import every_state, need_hall, need_state, state_number
from eachinturn.orders import first_orders, need_few_arrows
from eachinturn.rules import is_integer
from eachinturn.steps import day_list, day_numbers, need_day, need_start, rest_day, step_lists, stepped, walk


def _restless(hall, state):
    return tuple(sorted([place for place in hall[1][0] if stepped(hall, state, place) != state]))


def stays(hall, state):
    """Tell whether a state stays."""
    need_hall(hall)
    need_state(hall, state)
    return _restless(hall, state) == ()


def staying(hall):
    """Return the ascending list of the states that stay."""
    need_hall(hall)
    return _staying(hall)


def _staying(hall):
    steps = step_lists(hall)
    return [state for at, state in enumerate(every_state(hall)) if all([step[at] == at for step in steps])]


def restless(hall, state):
    """Return the ascending tuple of the places whose next states are not their own."""
    need_hall(hall)
    need_state(hall, state)
    return _restless(hall, state)


def staying_with(hall, partial):
    """Return the ascending list of the states that stay and have the states of partial where it has no None."""
    need_hall(hall)
    _need_partial(hall, partial)
    return [state for state in _staying(hall) if _has(state, partial)]


def _need_partial(hall, thing):
    """Raise BadState if this is no tuple of as many states and Nones as places."""
    if not isinstance(thing, tuple) or len(thing) != len(hall[2]):
        raise BadState("this is no tuple of as many states and Nones as places")
    for part in thing:
        if part is not None and (not is_integer(part) or not 0 <= part < hall[0]):
            raise BadState("this is neither a state nor None")


def _has(state, partial):
    return all([part is None or own == part for own, part in zip(state, partial)])


def days_to_rest(hall, order, state):
    """Return the first day, from 0 on, at the end of which the state stays, None if it never comes to one."""
    need_start(hall, order, state)
    return rest_day(day_list(hall, order), state_number(hall, state))


def _ends(numbers):
    """Return, for each state's number, that of the state that stays and to which it comes, None if there is none."""
    ends = []
    for start in range(len(numbers)):
        way, back = walk(numbers, start)
        ends.append(way[back] if len(way) - back == 1 else None)
    return ends


def rests(hall, order):
    """Return the list of (state, how many states come to it), for the states that stay, ascending."""
    need_day(hall, order)
    ends = _ends(day_list(hall, order))
    return [(state, ends.count(state_number(hall, state))) for state in _staying(hall)]


def never_rest(hall, order):
    """Return how many states come to none that stays."""
    need_day(hall, order)
    return _ends(day_list(hall, order)).count(None)


def rest_orders(hall, state, other):
    """Return the ascending list of the first alike orders by which a state comes to another one, that stays."""
    need_hall(hall)
    need_state(hall, state)
    need_state(hall, other)
    if _restless(hall, other):
        raise BadState("this state does not stay")
    need_few_arrows(hall[1])
    steps = step_lists(hall)
    start, end = state_number(hall, state), state_number(hall, other)
    return sorted([order for order in first_orders(hall[1]) if _comes(day_numbers(hall[1], steps, order), start, end)])


def _comes(numbers, start, end):
    """Tell whether days lead from one state to another one, that stays."""
    return walk(numbers, start)[0][-1] == end
