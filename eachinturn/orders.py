"""Orders of a web and the arrows that they make: what several modules reckon with.

Nothing here looks whether its arguments are right but for what begins with need.
"""

from eachinturn.errors import TooMany
from eachinturn.halls import are_joined, need_order, need_web

MOST_ARROWS = 500
FEWEST_IN_RING = 3


def need_ordered(web, order):
    """Raise the error of the first of a web and an order of it that is not right."""
    need_web(web)
    need_order(web, order)


def need_two_orders(web, order, other):
    """Raise the error of the first of a web and two orders of it that is not right."""
    need_ordered(web, order)
    need_order(web, other)


def arrows_of(web, order):
    """Return the arrows of an order, in the sequence of the roads."""
    return tuple([_pointed(order, one, other) for one, other in web[1]])


def _pointed(order, one, other):
    return (one, other) if order.index(one) < order.index(other) else (other, one)


def by_numbers(web, order):
    """Return the numbers of the places of an order: orders compare by these where "by numbers" is told."""
    return tuple([web[0].index(place) for place in order])


def could_be_ring(thing):
    """Tell whether thing is a tuple of three or more unlike texts."""
    if not isinstance(thing, tuple) or len(thing) < FEWEST_IN_RING:
        return False
    # of texts alone it is certain what they are equal to
    return all([isinstance(place, str) for place in thing]) and len(set(thing)) == len(thing)


def next_pairs(ring):
    """Return the list of (entry, next entry) around a ring, a tuple or a list, behind the last the first."""
    return list(zip(ring, ring[1:] + ring[:1]))


def free_places(web, told, gone):
    """Return the places, but for those that are gone, to which arrows lead from such places alone."""
    held = {other: True for one, other in told if one not in gone}
    return [place for place in web[0] if place not in gone and place not in held]


def freed(web, told):
    """Return the first sequence, by numbers, of the places that have all with an arrow to them ahead of them.

    The places that are left out are those on rings of arrows and those to which arrows lead from there.
    """
    gone = ()
    free = free_places(web, told, gone)
    while free:
        gone = gone + (free[0],)
        free = free_places(web, told, gone)
    return gone


def first_order(web, told):
    """Return the first order, by numbers, that has these arrows, None if they go round."""
    order = freed(web, told)
    return order if len(order) == len(web[0]) else None


def behind_exchange(order, index):
    """Return the order in which the places at the index and next behind it are exchanged."""
    return order[:index] + (order[index + 1], order[index]) + order[index + 2:]


def can_exchange(web, order, index):
    """Tell whether there are places at the index, an integer, and next behind it, without a road between them."""
    return 0 <= index < len(order) - 1 and not are_joined(web, order[index], order[index + 1])


def exchange_indexes(order, other):
    """Return the list of indexes whose exchanges lead from one order to the other."""
    indexes = []
    for at, place in enumerate(other):
        # all ahead of at is right by now: the place that is wanted there comes down to it
        start = order.index(place)
        for index in range(start - 1, at - 1, -1):
            order = behind_exchange(order, index)
            indexes.append(index)
    return indexes


def arrow_counts(web):
    """Return the list of how many arrows the places of each mask have among themselves.

    A place is in a mask if the bit of its number is set. Each tuple of arrows has places to which
    none leads, and without them it is one of the places that are left. Counted for each part of
    the mask in which no two have a road, a tuple with several such places comes several times;
    the signs put this right.
    """
    signs = _signs(web)
    counts = [1]
    for mask in range(1, len(signs)):
        counts.append(sum([signs[part] * counts[mask ^ part] for part in _parts(mask)]))
    return counts


def _parts(mask):
    """Return all parts of a mask but for the empty one."""
    parts = []
    part = mask
    while part > 0:
        parts.append(part)
        part = (part - 1) & mask
    return parts


def _signs(web):
    """Return, for each mask, 0 if two of its places have a road, else 1 for odd numbers of places and -1 for even."""
    places, roads = web
    joined = [mask_of(web, road) for road in roads]
    signs = [-1]
    for _ in places:
        signs = signs + [-sign for sign in signs]
    return [0 if any([mask & pair == pair for pair in joined]) else sign for mask, sign in enumerate(signs)]


def mask_of(web, places):
    """Return the mask of these places."""
    return sum([1 << web[0].index(place) for place in places])


def only_source_count(web, places, place):
    """Return how many arrows the places of a piece have, by which this one alone has no arrow to it."""
    signs, counts = _signs(web), arrow_counts(web)
    whole, own = mask_of(web, places), mask_of(web, (place,))
    return sum([signs[part] * counts[whole ^ part] for part in _parts(whole) if part & own])


def need_few_arrows(web):
    """Raise TooMany if orders of the web have more than five hundred unlike tuples of arrows."""
    if arrow_counts(web)[-1] > MOST_ARROWS:
        raise TooMany("there are more than five hundred arrows")


def every_arrows(web):
    """Return the ascending list of all tuples of arrows that orders of the web have."""
    found = [()]
    for one, other in web[1]:
        pairs = ((one, other), (other, one))
        found = [told + (pair,) for told in found for pair in pairs if not _lead(told, pair[1], pair[0])]
    return sorted(found)


def first_orders(web):
    """Return the list of the first alike orders, one for each tuple of arrows that orders of the web have."""
    return [first_order(web, told) for told in every_arrows(web)]


def _lead(told, start, end):
    """Tell whether arrows lead from one place to another."""
    reached = [start]
    at = 0
    while at < len(reached) and end not in reached:
        for one, other in told:
            if one == reached[at] and other not in reached:
                reached.append(other)
        at += 1
    return end in reached
