"""Turns: who is first in an order goes last. What comes of one another by these and exchanges is one class."""

from eachinturn.errors import BadMoves, BadPieces, BadRing
from eachinturn.halls import are_joined, near_of, need_order, need_place, need_web, pieces
from eachinturn.orders import (
    arrows_of, behind_exchange, by_numbers, can_exchange, could_be_ring, exchange_indexes, first_order, first_orders,
    free_places, need_few_arrows, need_ordered, need_two_orders, next_pairs, only_source_count,
)
from eachinturn.rings import from_least
from eachinturn.rules import is_integer


def need_one_piece(web):
    """Raise BadPieces if the web has more than one piece."""
    if len(pieces(web)) > 1:
        raise BadPieces("the web has more than one piece")


def _is_ring(thing, web):
    return could_be_ring(thing) and all([are_joined(web, one, other) for one, other in next_pairs(thing)])


def _steps_forward(order, ring):
    """Return how many places of a ring are ahead of the next one in the order."""
    return len([one for one, other in next_pairs(ring) if order.index(one) < order.index(other)])


def forward(web, order, ring):
    """Return for how many places of a ring the next one, behind the last the first, is later in the order."""
    need_ordered(web, order)
    if not _is_ring(ring, web):
        raise BadRing("this is no ring of the web")
    return _steps_forward(order, ring)


def _is_move(thing):
    if not isinstance(thing, tuple) or len(thing) == 0 or not isinstance(thing[0], str):
        return False
    if thing[0] == "turn":
        return len(thing) == 1
    return thing[0] == "swap" and len(thing) == 2 and is_integer(thing[1])


def made_moves(web, order, thing):
    """Return (order, turned): the order behind a list of moves, and the places that they let go last, one by one.

    None if thing, any object, is no list of moves that can be made.
    """
    if not isinstance(thing, list):
        return None
    turned = []
    for move in thing:
        if not _is_move(move):
            return None
        if move[0] == "turn":
            turned.append(order[0])
            order = order[1:] + order[:1]
        elif can_exchange(web, order, move[1]):
            order = behind_exchange(order, move[1])
        else:
            return None
    return order, turned


def carry_out(web, order, moves):
    """Return what made_moves does; raise BadMoves if this is no list of moves that can be made."""
    made = made_moves(web, order, moves)
    if made is None:
        raise BadMoves("this is no list of moves that can be made")
    return made


def moved_order(web, order, moves):
    """Return the order behind a list of moves."""
    need_ordered(web, order)
    return carry_out(web, order, moves)[0]


def moves_to(web, order, other):
    """Return a list of moves that leads from one order to the other, None if there is none."""
    need_two_orders(web, order, other)
    turns = _turns_between(web, order, other)
    return None if turns is None else _moves_of(web, order, other, turns)


def _turns_between(web, order, other):
    """Return a dict of how often each place must go last to come from one order to the other, None if none does.

    If a road's place that is ahead stays ahead, both its places are turned as often; if it comes
    behind, it is turned once more. The least such numbers are sought, and found within as many
    rounds as there are places, if they can be had.
    """
    told, wanted = arrows_of(web, order), arrows_of(web, other)
    mores = [(pair[0], pair[1], 0 if pair == later else 1) for pair, later in zip(told, wanted)]
    turns = {place: 0 for place in web[0]}
    for _ in web[0]:
        for one, two, more in mores:
            turns[one] = max(turns[one], turns[two] + more)
            turns[two] = max(turns[two], turns[one] - more)
    if any([turns[one] != turns[two] + more for one, two, more in mores]):
        return None
    return turns


def _moves_of(web, order, other, turns):
    """Return the moves from one order to the other, in which each place is turned as often as turns says."""
    moves = []
    left = dict(turns)
    while max(list(left.values())) > 0:
        at = _first_free(web, order, left)
        moves.extend([("swap", index) for index in range(at - 1, -1, -1)])
        moves.append(("turn",))
        left[order[at]] -= 1
        order = order[:at] + order[at + 1:] + (order[at],)
    return moves + [("swap", index) for index in exchange_indexes(order, other)]


def _first_free(web, order, left):
    """Return the first index of a place that is to be turned and has no neighbour ahead of it.

    Among the places with the most turns left, the one that has none of them ahead of it is such a place.
    """
    free = free_places(web, arrows_of(web, order), ())
    return min([order.index(place) for place in free if left[place] > 0])


def moves_hold(web, order, other, thing):
    """Tell whether thing is a list of moves that leads from one order to the other."""
    need_two_orders(web, order, other)
    made = made_moves(web, order, thing)
    return made is not None and made[0] == other


def _told_rings(web):
    """Return, in the sequence of the roads that close them, the rings that ring_counts tells."""
    told = []
    kept = ()
    for road in web[1]:
        way = _way((web[0], kept), road[0], road[1])
        if way is None:
            kept = kept + (road,)
        else:
            told.append(_told_ring(web, way))
    return told


def _way(web, start, end):
    """Return the only way between two places of a web without rings, None if there is none."""
    ways = [(start,)]
    at = 0
    while at < len(ways):
        way = ways[at]
        if way[-1] == end:
            return way
        ways.extend([way + (place,) for place in near_of(web, way[-1]) if place not in way])
        at += 1
    return None


def _told_ring(web, ring):
    """Return a ring told from its least place on, to the lesser of its neighbours, by numbers."""
    numbers = from_least(by_numbers(web, ring))
    if numbers[-1] < numbers[1]:
        numbers = numbers[:1] + numbers[:0:-1]
    return tuple([web[0][number] for number in numbers])


def ring_counts(web, order):
    """Return the list of (ring, steps forward) of the told rings, in the sequence of the roads that close them."""
    need_ordered(web, order)
    return [(ring, _steps_forward(order, ring)) for ring in _told_rings(web)]


def ring_between(web, order, other):
    """Return None if moves lead from one order to the other, else a ring with unlike steps forward."""
    need_two_orders(web, order, other)
    # around each ring the steps are alike if they are around all told ones
    for ring in _told_rings(web):
        if _steps_forward(order, ring) != _steps_forward(other, ring):
            return ring
    return None


def ring_between_holds(web, order, other, thing):
    """Tell whether thing is a ring around which two orders have unlike steps forward."""
    need_two_orders(web, order, other)
    return _is_ring(thing, web) and _steps_forward(order, thing) != _steps_forward(other, thing)


def _turned(told, place):
    """Return the arrows behind the turn of a place to which none of them leads."""
    return tuple([pair[::-1] if pair[0] == place else pair for pair in told])


def only_first(web, order, place):
    """Return the first order, by numbers, of the class by which this place alone has no neighbour ahead of it."""
    need_web(web)
    need_one_piece(web)
    need_order(web, order)
    need_place(web, place)
    told = arrows_of(web, order)
    # this place is never turned, so its neighbours are at most once, theirs at most twice, and so on
    others = [free for free in free_places(web, told, ()) if free != place]
    while others:
        told = _turned(told, others[0])
        others = [free for free in free_places(web, told, ()) if free != place]
    return first_order(web, told)


def count_classes(web):
    """Return how many classes of orders there are."""
    need_web(web)
    many = 1
    for piece in pieces(web):
        many = many * only_source_count(web, piece, piece[0])
    return many


def classes(web):
    """Return the ascending list of (numbers of the ring counts, first order of the class by numbers)."""
    need_web(web)
    need_few_arrows(web)
    return first_of_classes(web)


def first_of_classes(web):
    """Return what classes does, for a web that is known to have few arrows."""
    told = _told_rings(web)
    firsts = {}
    for order in first_orders(web):
        counts = tuple([_steps_forward(order, ring) for ring in told])
        if counts not in firsts or by_numbers(web, order) < by_numbers(web, firsts[counts]):
            firsts[counts] = order
    return sorted(list(firsts.items()))


def _class_of(web, order):
    """Return the ascending list of the arrows of a class."""
    found = [arrows_of(web, order)]
    at = 0
    while at < len(found):
        told = found[at]
        for turned in [_turned(told, place) for place in free_places(web, told, ())]:
            if turned not in found:
                found.append(turned)
        at += 1
    return sorted(found)


def class_arrows(web, order):
    """Return the ascending list of the arrows of all orders of a class."""
    need_ordered(web, order)
    return _class_of(web, order)


def turn_graph(web, order):
    """Return the ascending list of (arrows, place, arrows): the turn of this place leads from these to those."""
    need_ordered(web, order)
    told = _class_of(web, order)
    return sorted([(pairs, place, _turned(pairs, place)) for pairs in told for place in free_places(web, pairs, ())])
