"""Halls beside one another, and the parts of a hall that stand beside one another."""

from math import gcd, lcm

from eachinturn.errors import BadJoin, BadLengths, BadPart, BadTurns
from eachinturn.halls import is_hall, is_one_of, need_hall, need_order, pieces
from eachinturn.rings import lengths_of
from eachinturn.rules import are_states, is_integer
from eachinturn.steps import day_list, need_day


def beside(hall, other):
    """Return the hall of the places, roads and rules of the first and then the second."""
    need_hall(hall)
    need_hall(other)
    k, (places, roads), rules = hall
    both = (k, (places + other[1][0], roads + other[1][1]), rules + other[2])
    # a name in both, and whatever there is too much of, makes both together no hall
    if other[0] != k or not is_hall(both):
        raise BadJoin("these halls cannot stand beside one another")
    return both


def woven_order(hall, other, order, second, turns):
    """Return the order that takes its next place from the first hall's for 0, from the second's for 1."""
    beside(hall, other)
    need_order(hall[1], order)
    need_order(other[1], second)
    if not are_states(turns, 2, len(order) + len(second)) or turns.count(0) != len(order):
        raise BadTurns("these are not as many 0 and 1 as the halls have places")
    left = [order, second]
    woven = ()
    for turn in turns:
        woven = woven + left[turn][:1]
        left[turn] = left[turn][1:]
    return woven


def _is_length(thing):
    """Tell whether thing is a tuple of two integers from 1 on."""
    if not isinstance(thing, tuple) or len(thing) != 2:
        return False
    return all([is_integer(part) and part >= 1 for part in thing])


def _need_lengths(thing):
    """Raise BadLengths if this is no list as ring_lengths returns."""
    if not isinstance(thing, list) or not all([_is_length(pair) for pair in thing]):
        raise BadLengths("this is no list of tuples of two integers from 1 on")
    lengths = [length for length, _ in thing]
    if lengths != sorted(set(lengths)):
        raise BadLengths("these are not ascending, or have a length twice")


def beside_lengths(lengths, others):
    """Return the ring_lengths of halls beside one another, of their ring_lengths."""
    _need_lengths(lengths)
    _need_lengths(others)
    many = {}
    for one, some in lengths:
        for two, more in others:
            both = lcm(one, two)
            many[both] = many.get(both, 0) + some * more * gcd(one, two)
    return sorted(list(many.items()))


def _need_part(web, places):
    """Raise BadPart if these are not some places of the web, ascending, without a road to others."""
    if not isinstance(places, tuple) or not all([is_one_of(place, web[0]) for place in places]):
        raise BadPart("this is no tuple of places")
    if len(places) == 0 or list(places) != sorted(set(places)):
        raise BadPart("there is no place, or they are not ascending")
    if any([(one in places) != (other in places) for one, other in web[1]]):
        raise BadPart("a road leads to a place that is left out")


def _part(hall, kept):
    """Return the hall of these places alone, to which no roads lead from others."""
    k, (places, roads), rules = hall
    web = (tuple([place for place in places if place in kept]), tuple([road for road in roads if road[0] in kept]))
    return (k, web, tuple([rule for place, rule in zip(places, rules) if place in kept]))


def part_of(hall, places):
    """Return the hall of some places that have no road to others, in the sequence in which they stand in the hall."""
    need_hall(hall)
    _need_part(hall[1], places)
    return _part(hall, places)


def split_lengths(hall, order):
    """Return, in the sequence of the pieces, the list of the ring_lengths of the part of each."""
    need_day(hall, order)
    return [_part_lengths(hall, order, piece) for piece in pieces(hall[1])]


def _part_lengths(hall, order, piece):
    return lengths_of(day_list(_part(hall, piece), tuple([place for place in order if place in piece])))
