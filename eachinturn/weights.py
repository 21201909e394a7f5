"""Quiet halls and their weights: each step that changes a state makes it lighter, so that each comes to rest."""

from eachinturn.errors import BadRules, BadState
from eachinturn.halls import every_state, is_one_of, need_hall, need_order, need_state, state_number
from eachinturn.steps import passed, step_lists, stepped


def _need_quiet(hall):
    """Raise BadHall if this is no hall, BadRules if it is no quiet one."""
    need_hall(hall)
    if hall[0] != 2 or not all([rule[0] == "most" for rule in hall[2]]):
        raise BadRules("this is no quiet hall")


def _need_quiet_state(hall, state):
    _need_quiet(hall)
    need_state(hall, state)


def _weight(hall, state):
    places, roads = hall[1]
    on = [place for place, own in zip(places, state) if own == 1]
    owns = [2 * rule[1] - 1 for rule, own in zip(hall[2], state) if own == 1]
    return sum(owns) - 2 * len([road for road in roads if road[0] in on and road[1] in on])


def weight(hall, state):
    """Return the weight of a state of a quiet hall."""
    _need_quiet_state(hall, state)
    return _weight(hall, state)


def weights_down(hall, order, state):
    """Return the list of (day, place, weight behind it), for each step that changes the state until it stays."""
    _need_quiet(hall)
    need_order(hall[1], order)
    need_state(hall, state)
    told = []
    count = 1
    changes = _changes(hall, order, state)
    while changes:
        told.extend([(count, place, _weight(hall, behind)) for place, behind in changes])
        count += 1
        changes = _changes(hall, order, changes[-1][1])
    return told


def _changes(hall, order, state):
    """Return the list of (place, state behind its step), for each step of one day that changes the state."""
    changes = []
    for place in order:
        behind = stepped(hall, state, place)
        if behind != state:
            changes.append((place, behind))
            state = behind
    return changes


def rest_bound(hall):
    """Return the greatest weight less the least one: no more steps change a state of a quiet hall."""
    _need_quiet(hall)
    weights = [_weight(hall, state) for state in every_state(hall)]
    return max(weights) - min(weights)


def lightest(hall):
    """Return the ascending list of the states of the least weight; they stay."""
    _need_quiet(hall)
    states = every_state(hall)
    weights = [_weight(hall, state) for state in states]
    least = min(weights)
    return [state for state, worth in zip(states, weights) if worth == least]


def _ways_from(steps, start):
    """Return, for the number of each state to which steps lead, the shortest way there, of these the first.

    steps are the step_lists of a hall; a way is a tuple of numbers of places.
    """
    ways = {start: ()}
    queue = [start]
    at = 0
    while at < len(queue):
        number = queue[at]
        for place, made in enumerate(steps):
            # what the earlier ones in the queue led to has got a shorter way, or an earlier one
            if made[number] not in ways:
                ways[made[number]] = ways[number] + (place,)
                queue.append(made[number])
        at += 1
    return ways


def _ways_to_rest(hall, state):
    """Return a dict of the states that stay and to which steps lead, with the first shortest way to each."""
    states, steps = every_state(hall), step_lists(hall)
    ways = _ways_from(steps, state_number(hall, state))
    return {states[end]: way for end, way in ways.items() if all([made[end] == end for made in steps])}


def rest_reached(hall, state):
    """Return the ascending list of the states that stay and to which some sequence of steps leads."""
    _need_quiet_state(hall, state)
    return sorted(list(_ways_to_rest(hall, state)))


def _way_to(hall, state, other):
    """Return the first shortest way to a state that rest_reached returns; raise the error of what is not right."""
    _need_quiet_state(hall, state)
    need_state(hall, other)
    ways = _ways_to_rest(hall, state)
    if other not in ways:
        raise BadState("this is no state that stays and to which steps lead")
    return ways[other]


def rest_steps(hall, state, other):
    """Return the shortest tuple of places whose steps lead to a state that rest_reached returns, the first such."""
    return tuple([hall[1][0][number] for number in _way_to(hall, state, other)])


def rest_steps_hold(hall, state, other, thing):
    """Tell whether thing is a tuple of places whose steps lead to a state that rest_reached returns."""
    _way_to(hall, state, other)
    if not isinstance(thing, tuple) or not all([is_one_of(place, hall[1][0]) for place in thing]):
        return False
    return passed(hall, thing, state) == other
