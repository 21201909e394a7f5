"""Alike orders: those that have the same place ahead on each road."""

from eachinturn.errors import BadArrows
from eachinturn.halls import is_hall, is_state, need_web
from eachinturn.orders import (
    arrow_counts, arrows_of, behind_exchange, can_exchange, could_be_ring, every_arrows, exchange_indexes, first_order,
    freed, mask_of, need_few_arrows, need_ordered, need_two_orders, next_pairs,
)
from eachinturn.rules import is_integer
from eachinturn.steps import passed

PARTING_SORTS = ("keep", "copy")


def arrows(web, order):
    """Return, in the sequence of the roads, the pairs of the place that is ahead in the order and the other one."""
    need_ordered(web, order)
    return arrows_of(web, order)


def are_alike(web, order, other):
    """Tell whether two orders have the same arrows."""
    need_two_orders(web, order, other)
    return arrows_of(web, order) == arrows_of(web, other)


def first_alike(web, order):
    """Return the first order, by numbers, that is alike to this one."""
    need_ordered(web, order)
    return first_order(web, arrows_of(web, order))


def count_alike(web, order):
    """Return how many orders are alike to this one, itself counted."""
    need_ordered(web, order)
    told = arrows_of(web, order)
    needed = [mask_of(web, [one for one, other in told if other == place]) for place in web[0]]
    # counts[mask]: in how many sequences the places of the mask can be the first ones
    counts = [1] + [0] * mask_of(web, web[0])
    for mask in range(len(counts)):
        for number, ahead in enumerate(needed):
            if mask & (1 << number) == 0 and mask & ahead == ahead:
                counts[mask + (1 << number)] += counts[mask]
    return counts[-1]


def _need_arrows(web, told):
    """Raise BadArrows if this is no tuple of pairs, one for each road in its sequence, of the road's two places."""
    if not isinstance(told, tuple) or len(told) != len(web[1]):
        raise BadArrows("this is no tuple of as many arrows as roads")
    if not all([_is_arrow(pair, road) for pair, road in zip(told, web[1])]):
        raise BadArrows("this is no arrow of the road")


def _is_arrow(thing, road):
    # of texts alone it is certain what they are equal to
    if not isinstance(thing, tuple) or not all([isinstance(place, str) for place in thing]):
        return False
    return thing in (road, road[::-1])


def order_for(web, arrows):
    """Return the first order, by numbers, that has these arrows, None if there is none."""
    need_web(web)
    _need_arrows(web, arrows)
    return first_order(web, arrows)


def arrow_ring(web, arrows):
    """Return None if an order has these arrows, else a ring of places with an arrow from each to the next."""
    need_web(web)
    _need_arrows(web, arrows)
    gone = freed(web, arrows)
    if len(gone) == len(web[0]):
        return None
    # each place that is left has an arrow from another one that is left, so going against them comes round
    ahead = {other: one for one, other in arrows if one not in gone}
    way = [[place for place in web[0] if place not in gone][0]]
    while ahead[way[-1]] not in way:
        way.append(ahead[way[-1]])
    return tuple(way[way.index(ahead[way[-1]]):][::-1])


def arrow_ring_holds(web, arrows, thing):
    """Tell whether thing is a ring of three or more unlike places with an arrow from each to the next."""
    need_web(web)
    _need_arrows(web, arrows)
    return could_be_ring(thing) and all([pair in arrows for pair in next_pairs(thing)])


def exchanges(web, order, other):
    """Return a list of indexes of exchanges that lead from one order to the other, None if they are not alike."""
    if not are_alike(web, order, other):
        return None
    return exchange_indexes(order, other)


def exchanges_hold(web, order, other, thing):
    """Tell whether thing is a list of indexes of exchanges that lead from one order to the other."""
    need_two_orders(web, order, other)
    if not isinstance(thing, list):
        return False
    for index in thing:
        if not is_integer(index) or not can_exchange(web, order, index):
            return False
        order = behind_exchange(order, index)
    return order == other


def parting(web, order, other):
    """Return None for alike orders, else (rules, state) of which the days by the two orders are not the same."""
    need_two_orders(web, order, other)
    unlike = [pair for pair in arrows_of(web, order) if pair not in arrows_of(web, other)]
    if not unlike:
        return None
    # two places that copy one another both get what the one that is second had
    one, two = unlike[0]
    copies = {one: ("copy", two), two: ("copy", one)}
    rules = tuple([copies.get(place, ("keep",)) for place in web[0]])
    return rules, tuple([1 if place == one else 0 for place in web[0]])


def parting_holds(web, order, other, thing):
    """Tell whether thing is (rules, state), the rules keep and copy alone, of which the days are not the same."""
    need_two_orders(web, order, other)
    if not isinstance(thing, tuple) or len(thing) != 2:
        return False
    rules, state = thing
    hall = (2, web, rules)
    if not is_hall(hall) or not is_state(hall, state):
        return False
    if not all([rule[0] in PARTING_SORTS for rule in rules]):
        return False
    return passed(hall, order, state) != passed(hall, other, state)


def count_arrows(web):
    """Return how many unlike tuples of arrows orders of the web have."""
    need_web(web)
    return arrow_counts(web)[-1]


def all_arrows(web):
    """Return the ascending list of all tuples of arrows that orders of the web have."""
    need_web(web)
    need_few_arrows(web)
    return every_arrows(web)
