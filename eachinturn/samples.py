"""Orders out of samples: which of them make of a state what was seen behind one day of it."""

from itertools import combinations

from eachinturn.errors import BadOrders, BadSamples, TooMany
from eachinturn.halls import every_state, is_order, is_state, need_hall, need_order, state_number
from eachinturn.orders import every_arrows, first_order, first_orders, need_few_arrows
from eachinturn.steps import day_list, day_numbers, need_day, numbers_behind, step_lists

MOST_SAMPLES = 20
MOST_FAULT_SAMPLES = 10
FEWEST_ORDERS = 2
MOST_ORDERS = 100


def _need_samples(hall, samples):
    """Raise BadSamples if this is no tuple of at most twenty pairs of states of the hall."""
    if not isinstance(samples, tuple) or len(samples) > MOST_SAMPLES:
        raise BadSamples("this is no tuple of at most twenty samples")
    if not all([_is_sample(hall, sample) for sample in samples]):
        raise BadSamples("this is no pair of states of the hall")


def _is_sample(hall, thing):
    if not isinstance(thing, tuple) or len(thing) != 2:
        return False
    return all([is_state(hall, state) for state in thing])


def _need_told(hall, samples):
    need_hall(hall)
    _need_samples(hall, samples)


def _ends(hall, samples):
    """Return the list of the numbers of the first states of samples, and that of the second ones."""
    return [state_number(hall, one) for one, _ in samples], [state_number(hall, two) for _, two in samples]


def _fitting(hall, samples):
    """Return the ascending list of the arrows of the orders that fit."""
    web, steps, (starts, ends) = hall[1], step_lists(hall), _ends(hall, samples)
    return [told for told in every_arrows(web) if numbers_behind(web, steps, first_order(web, told), starts) == ends]


def fitting_arrows(hall, samples):
    """Return the ascending list of the arrows of the orders that fit all samples."""
    _need_told(hall, samples)
    need_few_arrows(hall[1])
    return _fitting(hall, samples)


def fits(hall, order, samples):
    """Tell whether one day of each sample's first state makes its second one."""
    need_day(hall, order)
    _need_samples(hall, samples)
    starts, ends = _ends(hall, samples)
    return numbers_behind(hall[1], step_lists(hall), order, starts) == ends


def sure_arrows(hall, samples):
    """Return None if no order fits, else, road by road, the arrow that all have that fit, None where they differ."""
    _need_told(hall, samples)
    need_few_arrows(hall[1])
    fitting = _fitting(hall, samples)
    if not fitting:
        return None
    return tuple([_common([told[at] for told in fitting]) for at in range(len(hall[1][1]))])


def _common(pairs):
    """Return the pair that these all are, None if they are not all alike."""
    return pairs[0] if pairs.count(pairs[0]) == len(pairs) else None


def _need_orders(web, orders):
    """Raise BadOrders if this is no list or tuple of two to a hundred orders of the web."""
    if not isinstance(orders, (list, tuple)) or not FEWEST_ORDERS <= len(orders) <= MOST_ORDERS:
        raise BadOrders("this is no list or tuple of two to a hundred orders")
    if not all([is_order(web, order) for order in orders]):
        raise BadOrders("this is no order of the web")


def asking(hall, orders):
    """Return (state, groups): the first state whose day parts the orders best, and how many make which state of it.

    It parts them best if the greatest group is least.
    """
    need_hall(hall)
    _need_orders(hall[1], orders)
    steps = step_lists(hall)
    days = [day_numbers(hall[1], steps, order) for order in orders]
    groups = [_counted([numbers[at] for numbers in days]) for at in range(len(steps[0]))]
    greatest = [max(list(group.values())) for group in groups]
    best = greatest.index(min(greatest))
    states = every_state(hall)
    return states[best], sorted([(states[number], many) for number, many in groups[best].items()])


def _counted(numbers):
    """Return a dict of how often each of these numbers is there."""
    many = {}
    for number in numbers:
        many[number] = many.get(number, 0) + 1
    return many


def unlike_state(hall, order, other):
    """Return the first state of which the days by two orders are not the same, None if there is none."""
    need_day(hall, order)
    need_order(hall[1], other)
    for state, one, two in zip(every_state(hall), day_list(hall, order), day_list(hall, other)):
        if one != two:
            return state
    return None


def like_days(hall):
    """Return the ascending list of lists of the first alike orders that have the same days of all states."""
    need_hall(hall)
    need_few_arrows(hall[1])
    steps = step_lists(hall)
    groups = {}
    for order in first_orders(hall[1]):
        groups.setdefault(tuple(day_numbers(hall[1], steps, order)), []).append(order)
    return sorted([sorted(group) for group in list(groups.values())])


def sample_fault(hall, samples):
    """Return None if some order fits, else the indexes of as few samples as can be that no order fits."""
    _need_told(hall, samples)
    need_few_arrows(hall[1])
    if len(samples) > MOST_FAULT_SAMPLES:
        raise TooMany("there are more than ten samples")
    missed = _missed(hall, samples)
    for many in range(1, len(samples) + 1):
        for chosen in combinations(range(len(samples)), many):
            if all([any([at in chosen for at in those]) for those in missed]):
                return chosen
    # an order misses none, so that no choice touches what it misses
    return None


def _missed(hall, samples):
    """Return, for the orders of all unlike arrows, the indexes of the samples that they do not fit, none twice."""
    steps, (starts, ends) = step_lists(hall), _ends(hall, samples)
    missed = {}
    for order in first_orders(hall[1]):
        made = numbers_behind(hall[1], steps, order, starts)
        missed[tuple([at for at, end in enumerate(ends) if made[at] != end])] = True
    return list(missed)
