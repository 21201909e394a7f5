"""A second reader of halls, for tests alone: it is told one word after the other and says what may come.

It is written as one talk: it yields a question (may this word come next?), and is sent the word
that did come. END_OF_ROW and END_OF_TEXT are words, too.
"""

import re

END_OF_ROW = object()
END_OF_TEXT = object()
NAME = re.compile("[a-z][a-z0-9]{0,7}")


def one_of(*words):
    return lambda word: word in words


def grammar():
    yield one_of("states")
    k = int((yield one_of("2", "3")))
    yield one_of(END_OF_ROW)
    most_places = {2: 8, 3: 5}[k]
    places, joined, roads = [], set(), 0
    kinds = ["place"]
    while True:
        kind = yield one_of(*kinds)
        if kind == "rule":
            break
        if kind == "place":
            places.append((yield lambda word: isinstance(word, str) and NAME.fullmatch(word) and word not in places))
        else:
            one = yield one_of(*places)
            other = yield lambda word: word in places and word != one and frozenset((one, word)) not in joined
            joined.add(frozenset((one, other)))
            roads += 1
        yield one_of(END_OF_ROW)
        kinds = ["rule"]
        if kind == "place" and len(places) < most_places:
            kinds.append("place")
        if roads < 14:
            kinds.append("road")
    for place in places:
        if place != places[0]:
            yield one_of("rule")
        yield from rule_grammar(k, [other for other in places if frozenset((place, other)) in joined])
        yield one_of(END_OF_ROW)
    yield one_of(END_OF_TEXT)


def rule_grammar(k, near):
    states = one_of(*"012"[:k])
    sort = yield one_of("table", "sum", "keep", "least", "greatest", "odd", "most", "copy")
    if sort == "table":
        for _ in range(k * k ** len(near)):
            yield states
    if sort == "sum":
        many = 1 + (k - 1) * len(near)
        for at in range(k * (many + 1) - 1):
            yield one_of("/") if at % (many + 1) == many else states
    if sort == "most":
        yield one_of(*"0123456789")
    if sort == "copy":
        yield one_of(*near)


def positions(text):
    """Each word with its row and number, the ends among them."""
    rows = text.split("\n")
    for at, row in enumerate(rows):
        words = row.split(" ")
        for number, word in enumerate(words):
            yield word, at, number
        yield END_OF_ROW, at, len(words)
    yield END_OF_TEXT, len(rows), 0


def first_misfit(text):
    """The row and the word of the first word that does not fit; None if all do."""
    talk = grammar()
    may_come = next(talk)
    for word, row, number in positions(text):
        if not may_come(word):
            return (row, number)
        if word is END_OF_TEXT:
            return None
        may_come = talk.send(word)
    raise AssertionError("a text has an end")
