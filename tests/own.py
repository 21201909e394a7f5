"""Second reckonings, slow and plain, with which the package's answers are compared.

They go through all orders and all states one by one, and share no code with the package.
"""

import functools
import itertools
import random

from tests.test_tables import told

R = (("a", "b", "c", "d"), (("a", "b"), ("b", "c"), ("c", "d"), ("a", "d")))

# Names, places and roads stand in sequences of their own, roads are told in either direction.
SMALL_WEBS = {
    "one place": (("q",), ()),
    "two apart": (("b", "a"), ()),
    "one road": (("b", "a"), (("a", "b"),)),
    "a way": (("m", "z", "a"), (("a", "m"), ("m", "z"))),
    "two and one": (("z", "b", "k"), (("k", "z"),)),
    "ring of three": (("c", "a", "b"), (("a", "b"), ("c", "b"), ("c", "a"))),
    "R": R,
    "ring of four": (("d", "a", "z", "b"), (("z", "d"), ("b", "a"), ("b", "z"), ("d", "a"))),
    "no roads": (("d", "a10", "a2", "b"), ()),
    "a star": (("s", "q", "x", "a"), (("x", "s"), ("s", "a"), ("q", "s"))),
    "two roads apart": (("d", "a", "c", "b"), (("c", "d"), ("b", "a"))),
    "a ring and one": (("n", "k", "z", "a"), (("z", "n"), ("a", "n"), ("a", "z"))),
    "a ring with a tail": (("n", "k", "z", "a"), (("k", "n"), ("z", "a"), ("a", "n"), ("n", "z"))),
    "two rings that share a road": (("n", "k", "z", "a"), (("z", "n"), ("a", "n"), ("k", "a"), ("a", "z"), ("k", "z"))),
    "each two of four": (
        ("b", "d", "a", "c"), (("a", "b"), ("c", "d"), ("c", "a"), ("b", "d"), ("d", "a"), ("c", "b")),
    ),
}
FIVE_WEBS = {
    "ring of five": (("e", "a", "d", "b", "c"), (("b", "a"), ("c", "d"), ("b", "c"), ("e", "a"), ("d", "e"))),
    "two rings that share a place": (
        ("m", "b", "a", "y", "x"), (("x", "y"), ("a", "m"), ("m", "x"), ("b", "a"), ("y", "m"), ("b", "m")),
    ),
    "a ring and a road": (("v", "b", "a", "w", "c"), (("w", "v"), ("a", "c"), ("b", "c"), ("a", "b"))),
    "a house": (("t", "r", "l", "b", "a"), (("a", "b"), ("b", "r"), ("a", "l"), ("r", "l"), ("t", "r"), ("l", "t"))),
    "three ways": (("p", "x", "q", "y", "z"), (("x", "p"), ("q", "y"), ("p", "z"), ("z", "q"), ("p", "y"), ("x", "q"))),
}
WEBS = {**SMALL_WEBS, **FIVE_WEBS}

EIGHT_WITHOUT = (("h", "c", "a", "b", "g", "f", "e", "d"), ())
EIGHT_WITH_FEW = (("h", "c", "a", "b", "g", "f", "e", "d"), (("e", "h"), ("a", "c"), ("h", "c"), ("a", "e"), ("b", "g")))
EIGHT_WITH_FOURTEEN = (
    ("h", "c", "a", "b", "g", "f", "e", "d"),
    (("a", "b"), ("h", "c"), ("e", "a"), ("c", "a"), ("g", "b"), ("f", "g"), ("d", "h"), ("e", "f"), ("d", "e"),
     ("b", "h"), ("c", "f"), ("g", "d"), ("a", "h"), ("c", "e")),
)
EIGHT_WEBS = (EIGHT_WITHOUT, EIGHT_WITH_FEW, EIGHT_WITH_FOURTEEN)
# With 492 and with 502 arrows: as near to five hundred from both sides as webs were found to come.
JUST_FEW = (
    ("a", "b", "c", "d", "e", "f", "g"),
    (("a", "c"), ("a", "d"), ("a", "g"), ("b", "e"), ("b", "g"), ("c", "d"), ("c", "e"), ("d", "f"), ("e", "f"),
     ("f", "g")),
)
JUST_MANY = (
    ("a", "b", "c", "d", "e", "f", "g"),
    (("a", "b"), ("a", "c"), ("a", "e"), ("a", "f"), ("b", "d"), ("c", "g"), ("d", "e"), ("d", "f"), ("e", "g"),
     ("f", "g")),
)
# Two rings of five that share the road (c, d): 450 arrows
EIGHT_WITH_RINGS = (
    ("h", "c", "a", "b", "g", "f", "e", "d"),
    (("d", "c"), ("a", "b"), ("c", "a"), ("b", "h"), ("h", "d"), ("f", "c"), ("g", "f"), ("g", "e"), ("d", "e")),
)


def joined(web, one, other):
    return (one, other) in web[1] or (other, one) in web[1]


@functools.lru_cache(maxsize=None)
def near(web, place):
    return tuple(other for other in web[0] if joined(web, place, other))


def orders_of(web):
    """All orders, by numbers."""
    return list(itertools.permutations(web[0]))


def some_orders(web, many, seed=3):
    chance = random.Random(seed)
    return [tuple(chance.sample(web[0], len(web[0]))) for _ in range(many)]


def by_numbers(web, order):
    return [web[0].index(place) for place in order]


def arrows_of(web, order):
    ahead = {place: at for at, place in enumerate(order)}
    return tuple(tuple(sorted(road, key=ahead.get)) for road in web[1])


def firsts_of(web):
    """A dict of the first order, by numbers, of each tuple of arrows; it is not to be changed."""
    firsts = {}
    for order in orders_of(web):
        firsts.setdefault(arrows_of(web, order), order)
    return firsts


def forward_of(order, ring):
    return sum(1 for at in range(len(ring)) if order.index(ring[at - 1]) < order.index(ring[at]))


def exchanged(web, order, index):
    """The order behind an exchange, None if it cannot be made."""
    if not 0 <= index < len(order) - 1 or joined(web, order[index], order[index + 1]):
        return None
    changed = list(order)
    changed[index], changed[index + 1] = changed[index + 1], changed[index]
    return tuple(changed)


def carry_out(web, order, moves):
    """(order, turned places) behind moves; fails if they cannot be made."""
    turned = []
    for move in moves:
        if move == ("turn",):
            turned.append(order[0])
            order = order[1:] + (order[0],)
        else:
            word, index = move
            assert word == "swap"
            order = exchanged(web, order, index)
            assert order is not None
    return order, turned


def class_of(web, order):
    """All orders that come of this one by moves."""
    found = {order}
    left = [order]
    while left:
        now = left.pop()
        for other in [now[1:] + now[:1]] + [exchanged(web, now, index) for index in range(len(now) - 1)]:
            if other is not None and other not in found:
                found.add(other)
                left.append(other)
    return found


def classes_of(web):
    """The classes, each a set of orders, by their first orders by numbers."""
    found = {}
    known = set()
    for order in orders_of(web):
        if order not in known:
            found[order] = class_of(web, order)
            known |= found[order]
    return found


def step_of(hall, state, place):
    k, (places, _), rules = hall
    number = places.index(place)
    around = near(hall[1], place)
    changed = list(state)
    changed[number] = told(k, rules[number], around, state[number], [state[places.index(other)] for other in around])
    return tuple(changed)


def day_of(hall, order, state):
    for place in order:
        state = step_of(hall, state, place)
    return state


def story_of(hall, order, state, count):
    states = [state]
    while len(states) <= count:
        states.append(day_of(hall, order, states[-1]))
    return states


def states_of(hall):
    return list(itertools.product(range(hall[0]), repeat=len(hall[1][0])))


@functools.lru_cache(maxsize=500)
def table_of_days(hall, order):
    """A dict of the state behind a day of each state; it is not to be changed."""
    return {state: day_of(hall, order, state) for state in states_of(hall)}


def ring_behind(days, state):
    """(days, ring): the days until the state is on a ring, and the ring as it comes, from the first state of it on."""
    seen = []
    while state not in seen:
        seen.append(state)
        state = days[state]
    return seen.index(state), seen[seen.index(state):]


def rings_of(days):
    """The ascending list of the rings, told from their least states on."""
    found = set()
    for state in days:
        _, ring = ring_behind(days, state)
        at = ring.index(min(ring))
        found.add(tuple(ring[at:] + ring[:at]))
    return sorted(found)


def stays_in(hall, state):
    return all(step_of(hall, state, place) == state for place in hall[1][0])


def some_rule(chance, k, around):
    """A rule of a place with these neighbours, of any sort."""
    sorts = ["table", "sum", "keep", "least", "greatest", "odd", "most"] + ["copy"] * min(2, len(around))
    sort = chance.choice(sorts)
    if sort == "table":
        return ("table", tuple(chance.randrange(k) for _ in range(k ** (len(around) + 1))))
    if sort == "sum":
        many = len(around) * (k - 1) + 1
        return ("sum", tuple(tuple(chance.randrange(k) for _ in range(many)) for _ in range(k)))
    if sort == "most":
        return ("most", chance.randrange(4))
    if sort == "copy":
        return ("copy", chance.choice(around))
    return (sort,)


def some_undoable_rule(chance, k, around):
    """A table of a place with these neighbours: for each states of theirs, some sequence of all own states."""
    table = ()
    for _ in range(k ** len(around)):
        table += tuple(chance.sample(range(k), k))
    return ("table", table)


def some_quiet_rule(chance, k, around):
    """The rule most with a number that can come to be, or just not."""
    return ("most", chance.randrange(len(around) + 2))


def some_adding_rule(chance, k, around):
    return chance.choice([("odd",), ("odd",), ("keep",)] + [("copy", place) for place in around])


def some_hall(web, k, seed, rule=some_rule):
    chance = random.Random(seed)
    return (k, web, tuple(rule(chance, k, near(web, place)) for place in web[0]))


def small_halls(many=2, rule=some_rule):
    """Halls on the small webs, with two states and with three."""
    for k in (2, 3):
        for web in SMALL_WEBS.values():
            for seed in range(many):
                yield some_hall(web, k, seed, rule)


def quiet_halls(many=3):
    """Quiet halls on the small webs."""
    for web in SMALL_WEBS.values():
        for seed in range(many):
            yield some_hall(web, 2, seed, some_quiet_rule)


# 256 states and 243
BIG_TWO = some_hall(EIGHT_WITH_FOURTEEN, 2, 11)
BIG_THREE = some_hall(FIVE_WEBS["a house"], 3, 4)
