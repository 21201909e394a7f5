"""Webs of places and roads, and halls: webs with states and rules."""

from eachinturn.errors import BadHall, BadOrder, BadPlace, BadState, BadWeb
from eachinturn.rules import are_states, is_integer, is_rule, power, rule_table

LONGEST_NAME = 8
MOST_PLACES = 8
MOST_ROADS = 14
MOST_STATES = 256
LETTERS = "abcdefghijklmnopqrstuvwxyz"
NAME_SIGNS = "abcdefghijklmnopqrstuvwxyz0123456789"


def is_name(thing):
    """Tell whether thing is a name that a place can have."""
    if not isinstance(thing, str) or not 1 <= len(thing) <= LONGEST_NAME:
        return False
    return thing[0] in LETTERS and all([sign in NAME_SIGNS for sign in thing])


def is_web(thing):
    """Tell whether thing is a web."""
    if not isinstance(thing, tuple) or len(thing) != 2:
        return False
    places, roads = thing
    return _are_places(places) and _are_roads(roads, places)


def _are_places(thing):
    if not isinstance(thing, tuple) or not 1 <= len(thing) <= MOST_PLACES:
        return False
    return all([is_name(place) for place in thing]) and len(set(thing)) == len(thing)


def _are_roads(thing, places):
    if not isinstance(thing, tuple) or len(thing) > MOST_ROADS:
        return False
    if not all([_is_road(road, places) for road in thing]):
        return False
    return len({tuple(sorted(road)) for road in thing}) == len(thing)


def _is_road(thing, places):
    if not isinstance(thing, tuple) or len(thing) != 2:
        return False
    return all([is_one_of(end, places) for end in thing]) and thing[0] != thing[1]


def is_one_of(thing, places):
    """Tell whether thing is one of these places."""
    # isinstance comes first: an object of another kind may be equal to anything
    return isinstance(thing, str) and thing in places


def need_web(web):
    """Raise BadWeb if this is no web."""
    if not is_web(web):
        raise BadWeb("this is no web")


def need_place(web, place):
    """Raise BadPlace if this is no place of the web."""
    if not is_one_of(place, web[0]):
        raise BadPlace("this is no place of the web")


def need_order(web, order):
    """Raise BadOrder if this is no order of the web."""
    if not is_order(web, order):
        raise BadOrder("this is no order of the web")


def is_order(web, thing):
    """Tell whether thing is an order of the web."""
    if not isinstance(thing, tuple) or len(thing) != len(web[0]):
        return False
    return all([is_one_of(place, web[0]) for place in thing]) and len(set(thing)) == len(thing)


def are_joined(web, one, other):
    """Tell whether there is a road between two places, both being known to be right."""
    return (one, other) in web[1] or (other, one) in web[1]


def near_of(web, place):
    """Return the neighbours of a place, both being known to be right."""
    return tuple([other for other in web[0] if are_joined(web, place, other)])


def neighbours(web, place):
    """Return the tuple of the neighbours of a place, in the sequence of their numbers."""
    need_web(web)
    need_place(web, place)
    return near_of(web, place)


def pieces(web):
    """Return the ascending list of the pieces of a web, each the ascending tuple of its places."""
    need_web(web)
    places, roads = web
    piece_of = {place: (place,) for place in places}
    for one, other in roads:
        if other not in piece_of[one]:
            joined = tuple(sorted(piece_of[one] + piece_of[other]))
            for place in joined:
                piece_of[place] = joined
    return sorted(set(list(piece_of.values())))


def is_forest(web):
    """Tell whether a web has as many roads as places less pieces."""
    need_web(web)
    places, roads = web
    return len(roads) == len(places) - len(pieces(web))


def is_hall(thing):
    """Tell whether thing is a hall."""
    if not isinstance(thing, tuple) or len(thing) != 3:
        return False
    k, web, rules = thing
    if not is_integer(k) or not 2 <= k <= 3 or not is_web(web):
        return False
    return power(k, len(web[0])) <= MOST_STATES and _are_rules(rules, k, web)


def _are_rules(thing, k, web):
    if not isinstance(thing, tuple) or len(thing) != len(web[0]):
        return False
    return all([is_rule(rule, k, near_of(web, place)) for place, rule in zip(web[0], thing)])


def need_hall(hall):
    """Raise BadHall if this is no hall."""
    if not is_hall(hall):
        raise BadHall("this is no hall")


def need_state(hall, state):
    """Raise BadState if this is no state of the hall."""
    if not is_state(hall, state):
        raise BadState("this is no state of the hall")


def is_state(hall, thing):
    """Tell whether thing is a state of the hall."""
    return are_states(thing, hall[0], len(hall[1][0]))


def table_of(hall, place):
    """Return the t of the rule ("table", t) that tells the same as the rule of a place."""
    need_hall(hall)
    need_place(hall[1], place)
    return _table_at(hall, hall[1][0].index(place))


def _table_at(hall, number):
    """Return the table of the place with this number."""
    k, web, rules = hall
    return rule_table(rules[number], k, near_of(web, web[0][number]))


def with_tables(hall):
    """Return the hall that is the same with rules of the sort table alone."""
    need_hall(hall)
    k, web, rules = hall
    return (k, web, tuple([("table", _table_at(hall, number)) for number in range(len(rules))]))


def states_of(hall):
    """Return the ascending list of all states of a hall."""
    need_hall(hall)
    return every_state(hall)


def every_state(hall):
    """Return the ascending list of all states of a hall that is known to be one."""
    states = [()]
    for _ in hall[1][0]:
        states = [state + (own,) for state in states for own in range(hall[0])]
    return states


def number_of(hall, state):
    """Return the index of a state in the list of all states of a hall."""
    need_hall(hall)
    need_state(hall, state)
    return state_number(hall, state)


def state_number(hall, state):
    """Return the index of a state, hall and state being known to be right."""
    number = 0
    for own in state:
        number = number * hall[0] + own
    return number
