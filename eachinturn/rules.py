"""What is a rule of a place, and which state it tells next."""

SORTS = ("table", "sum", "keep", "least", "greatest", "odd", "most", "copy")
BARE_SORTS = ("keep", "least", "greatest", "odd")
GREATEST_MOST = 9


def is_integer(thing):
    """Tell whether thing is an int that is not a bool."""
    return isinstance(thing, int) and not isinstance(thing, bool)


def power(base, exponent):
    """Return base to the power of exponent, an integer from 0 on."""
    result = 1
    for _ in range(exponent):
        result = result * base
    return result


def are_states(thing, k, many):
    """Tell whether thing is a tuple of so many integers from 0 to k - 1."""
    if not isinstance(thing, tuple) or len(thing) != many:
        return False
    return all([is_integer(state) and 0 <= state < k for state in thing])


def table_length(k, near):
    """Return how many states the table of a place with these neighbours has."""
    return power(k, len(near) + 1)


def sum_length(k, near):
    """Return how many sums the states of these neighbours can have."""
    return len(near) * (k - 1) + 1


def is_rule(thing, k, near):
    """Tell whether thing is a rule of a place with these neighbours, where there are k states."""
    if not isinstance(thing, tuple) or len(thing) == 0 or not isinstance(thing[0], str):
        return False
    if thing[0] in BARE_SORTS:
        return len(thing) == 1
    return len(thing) == 2 and _is_worth(thing[0], thing[1], k, near)


def _is_worth(sort, worth, k, near):
    """Tell whether worth may stand behind this sort in a rule."""
    if sort == "table":
        return are_states(worth, k, table_length(k, near))
    if sort == "sum":
        return _are_sums(worth, k, near)
    if sort == "most":
        return is_integer(worth) and 0 <= worth <= GREATEST_MOST
    # isinstance comes first: an object of another kind may be equal to anything
    return sort == "copy" and isinstance(worth, str) and worth in near


def _are_sums(worth, k, near):
    if not isinstance(worth, tuple) or len(worth) != k:
        return False
    return all([are_states(states, k, sum_length(k, near)) for states in worth])


def next_state(rule, k, near, states):
    """Return what the rule tells, states being the own one and then those of the neighbours."""
    sort, own, others = rule[0], states[0], states[1:]
    if sort == "table":
        return rule[1][_table_index(k, states)]
    if sort == "sum":
        return rule[1][own][sum(others)]
    if sort == "keep":
        return own
    if sort == "least":
        return min(states)
    if sort == "greatest":
        return max(states)
    if sort == "odd":
        return sum(states) % k
    if sort == "most":
        return 1 if len([state for state in others if state != 0]) >= rule[1] else 0
    return others[near.index(rule[1])]


def _table_index(k, states):
    index = 0
    for state in states[::-1]:
        index = index * k + state
    return index


def _states_at(index, k, many):
    """Return the states that stand at this index of a table, the own one first."""
    states = []
    for _ in range(many):
        states.append(index % k)
        index = index // k
    return states


def rule_table(rule, k, near):
    """Return the t of the rule ("table", t) that tells the same as this one."""
    many = len(near) + 1
    return tuple([next_state(rule, k, near, _states_at(index, k, many)) for index in range(table_length(k, near))])
