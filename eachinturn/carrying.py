"""Days carried over: what days of one order make, as days of an order that comes of it by turns."""

from eachinturn.errors import BadDays, BadMoves, BadState
from eachinturn.halls import is_state, need_hall, need_order, need_state
from eachinturn.orders import need_few_arrows, need_ordered
from eachinturn.rings import from_least, lengths_of, rings
from eachinturn.steps import day_list, day_numbers, need_day, passed, step_lists
from eachinturn.turning import carry_out, first_of_classes, need_one_piece


def carried(hall, order, moves, state):
    """Return the state to which moves carry a state: each turn takes the step of the place that goes last."""
    need_day(hall, order)
    turned = carry_out(hall[1], order, moves)[1]
    need_state(hall, state)
    return passed(hall, turned, state)


def carried_ring(hall, order, moves, ring):
    """Return the ring of days, of the order behind the moves, to which a ring of days of this order is carried."""
    need_day(hall, order)
    turned = carry_out(hall[1], order, moves)[1]
    _need_ring(hall, order, ring)
    return _carried_ring(hall, turned, ring)


def _need_ring(hall, order, thing):
    """Raise BadDays if this is no ring of days of the order."""
    if not isinstance(thing, tuple):
        raise BadDays("this is no ring of days")
    # of states alone it is certain what they are equal to
    if not all([is_state(hall, state) for state in thing]) or thing not in rings(hall, order):
        raise BadDays("this is no ring of days of the order")


def _carried_ring(hall, turned, ring):
    return from_least(tuple([passed(hall, turned, state) for state in ring]))


def ring_match(hall, order, moves):
    """Return the list of (ring, ring): each ring of days of the order, and the one that it is carried to."""
    need_day(hall, order)
    turned = carry_out(hall[1], order, moves)[1]
    return [(ring, _carried_ring(hall, turned, ring)) for ring in rings(hall, order)]


def back_moves(web, order, moves):
    """Return the moves turned about, the last one first: they lead back."""
    need_ordered(web, order)
    carry_out(web, order, moves)
    back = []
    for move in moves[::-1]:
        # as many turns as places lead from an order to itself
        back.extend([("turn",)] * (len(order) - 1) if move[0] == "turn" else [("swap", move[1])])
    return back


def match_shift(hall, order, moves, state):
    """Return by how many days what a state of a ring is carried to, by moves that lead back, is later."""
    need_hall(hall)
    need_one_piece(hall[1])
    need_order(hall[1], order)
    behind, turned = carry_out(hall[1], order, moves)
    if behind != order:
        raise BadMoves("these moves do not lead back to the order")
    need_state(hall, state)
    on = [ring for ring in rings(hall, order) if state in ring]
    if not on:
        raise BadState("this state is on no ring of days")
    # each place has been turned as often as each other one
    return len(turned) // len(order) % len(on[0])


def same_lengths(hall, order, other):
    """Tell whether the rings of days of two orders are as many and as long."""
    need_day(hall, order)
    need_order(hall[1], other)
    return lengths_of(day_list(hall, order)) == lengths_of(day_list(hall, other))


def length_table(hall):
    """Return the list of (order, ring lengths), for the first order of each class."""
    need_hall(hall)
    need_few_arrows(hall[1])
    steps = step_lists(hall)
    firsts = [order for counts, order in first_of_classes(hall[1])]
    return [(order, lengths_of(day_numbers(hall[1], steps, order))) for order in firsts]
