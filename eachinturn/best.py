"""Best orders: those by which a state rests soonest or latest, and those with the longest or fewest rings of days."""

from eachinturn.halls import need_hall, need_state, state_number
from eachinturn.orders import behind_exchange, by_numbers, first_orders, need_few_arrows
from eachinturn.rings import lengths_of
from eachinturn.steps import day_list, day_numbers, need_day, need_start, rest_day, step_lists
from eachinturn.turning import first_of_classes


def _first_with(web, worths, wanted):
    """Return (wanted, order): the first order, by numbers, of the (worth, order) with the worth that is wanted."""
    return wanted, min([(by_numbers(web, order), order) for worth, order in worths if worth == wanted])[1]


def _rest_worths(hall, state):
    """Return the list of (days_to_rest, order), for the first alike orders."""
    need_hall(hall)
    need_state(hall, state)
    need_few_arrows(hall[1])
    steps, start = step_lists(hall), state_number(hall, state)
    return [(rest_day(day_numbers(hall[1], steps, order), start), order) for order in first_orders(hall[1])]


def quickest(hall, state):
    """Return (days, order): the least days to rest of all orders, and the first with them; None if none has rest."""
    worths = _rest_worths(hall, state)
    days = [worth for worth, _ in worths if worth is not None]
    return _first_with(hall[1], worths, min(days)) if days else None


def slowest(hall, state):
    """Return (days, order): the most days to rest of all orders, and the first with them; None if one has no rest."""
    worths = _rest_worths(hall, state)
    days = [worth for worth, _ in worths]
    return None if None in days else _first_with(hall[1], worths, max(days))


def _class_lengths(hall):
    """Return the list of (ring_lengths, order), for the first orders of the classes: all of a class have the same."""
    need_hall(hall)
    need_few_arrows(hall[1])
    steps = step_lists(hall)
    orders = [order for _, order in first_of_classes(hall[1])]
    return [(lengths_of(day_numbers(hall[1], steps, order)), order) for order in orders]


def longest_ring(hall):
    """Return (length, order): the greatest length of a ring of days of all orders, and the first with such a one."""
    worths = [(lengths[-1][0], order) for lengths, order in _class_lengths(hall)]
    return _first_with(hall[1], worths, max([worth for worth, _ in worths]))


def fewest_rings(hall):
    """Return (number, order): the least number of rings of days of all orders, and the first with so few."""
    worths = [(sum([many for _, many in lengths]), order) for lengths, order in _class_lengths(hall)]
    return _first_with(hall[1], worths, min([worth for worth, _ in worths]))


def better_swap(hall, order, state):
    """Return the first index at which exchanging two neighbours makes the days to rest less, None if none does."""
    need_start(hall, order, state)
    steps, start = step_lists(hall), state_number(hall, state)
    now = rest_day(day_numbers(hall[1], steps, order), start)
    for index in range(len(order) - 1):
        days = rest_day(day_numbers(hall[1], steps, behind_exchange(order, index)), start)
        if days is not None and (now is None or days < now):
            return index
    return None


def order_score(hall, order):
    """Return (how many states come to rest, the greatest of their days, the sum of their days)."""
    need_day(hall, order)
    numbers = day_list(hall, order)
    days = [rest_day(numbers, start) for start in range(len(numbers))]
    told = [many for many in days if many is not None]
    return len(told), max(told, default=0), sum(told)
