"""Halls as texts: rows of words."""

from eachinturn.errors import BadRows
from eachinturn.halls import MOST_ROADS, MOST_STATES, is_name, near_of, need_hall
from eachinturn.rules import BARE_SORTS, GREATEST_MOST, SORTS, power, sum_length, table_length


def write_hall(hall):
    """Return the text of a hall."""
    need_hall(hall)
    k, (places, roads), rules = hall
    rows = [f"states {k}"]
    rows.extend([f"place {place}" for place in places])
    rows.extend([f"road {one} {other}" for one, other in roads])
    rows.extend([f"rule {_rule_words(rule)}" for rule in rules])
    return "\n".join(rows)


def _rule_words(rule):
    sort = rule[0]
    if sort in BARE_SORTS:
        return sort
    if sort == "table":
        return f"table {_digits(rule[1])}"
    if sort == "sum":
        lists = " / ".join([_digits(states) for states in rule[1]])
        return f"sum {lists}"
    return f"{sort} {rule[1]}"


def _digits(states):
    return " ".join([str(state) for state in states])


def read_hall(text):
    """Return the hall of which this is the text."""
    if not isinstance(text, str):
        raise BadRows(0, 0)
    rows = [row.split(" ") for row in text.split("\n")]
    k = _read_k(rows)
    places = _read_places(rows, k)
    roads = _read_roads(rows, places)
    web = (places, roads)
    ahead = 1 + len(places) + len(roads)
    nears = [near_of(web, place) for place in places]
    rules = [_read_rule(rows, ahead + at, k, near) for at, near in enumerate(nears)]
    if len(rows) > ahead + len(rules):
        raise BadRows(ahead + len(rules), 0)
    return (k, web, tuple(rules))


def _take(rows, row, word, fitting):
    """Return the word that stands there: one of the fitting ones.

    Behind the end of a row, or of the text, no word stands. What is told then is the number
    of words of that row, or the number of rows and 0: the very position that was looked at.
    """
    if row >= len(rows) or word >= len(rows[row]) or rows[row][word] not in fitting:
        raise BadRows(row, word)
    return rows[row][word]


def _end_row(rows, row, many):
    """Raise BadRows if the row has more words than so many."""
    if len(rows[row]) > many:
        raise BadRows(row, many)


def _begins(rows, row, word):
    """Tell whether there is such a row and it begins with this word."""
    return row < len(rows) and rows[row][0] == word


def _read_k(rows):
    _take(rows, 0, 0, ("states",))
    k = int(_take(rows, 0, 1, ("2", "3")))
    _end_row(rows, 0, 2)
    return k


def _read_places(rows, k):
    _take(rows, 1, 0, ("place",))
    places = []
    while _begins(rows, 1 + len(places), "place") and power(k, len(places) + 1) <= MOST_STATES:
        places.append(_read_place(rows, 1 + len(places), places))
    return tuple(places)


def _read_place(rows, row, taken):
    if len(rows[row]) == 1 or not is_name(rows[row][1]) or rows[row][1] in taken:
        raise BadRows(row, 1)
    _end_row(rows, row, 2)
    return rows[row][1]


def _read_roads(rows, places):
    roads = []
    row = 1 + len(places)
    while _begins(rows, row, "road") and len(roads) < MOST_ROADS:
        one = _take(rows, row, 1, places)
        near = near_of((places, tuple(roads)), one)
        other = _take(rows, row, 2, [place for place in places if place != one and place not in near])
        _end_row(rows, row, 3)
        roads.append((one, other))
        row += 1
    return tuple(roads)


def _read_rule(rows, row, k, near):
    _take(rows, row, 0, ("rule",))
    sort = _take(rows, row, 1, SORTS)
    wanted = _wanted_words(sort, k, near)
    words = [_take(rows, row, 2 + at, fitting) for at, fitting in enumerate(wanted)]
    _end_row(rows, row, 2 + len(wanted))
    return _made_rule(sort, words)


def _wanted_words(sort, k, near):
    """Return, for each word behind the sort of a rule, the list of those that fit."""
    states = [str(state) for state in range(k)]
    if sort == "table":
        return [states] * table_length(k, near)
    if sort == "sum":
        sums = [states] * sum_length(k, near)
        return sums + ([["/"]] + sums) * (k - 1)
    if sort == "most":
        return [[str(n) for n in range(GREATEST_MOST + 1)]]
    if sort == "copy":
        return [list(near)]
    return []


def _made_rule(sort, words):
    """Return the rule of this sort, of words that are known to be right."""
    if sort == "table":
        return (sort, _states(words))
    if sort == "sum":
        lists = " ".join(words).split(" / ")
        return (sort, tuple([_states(states.split(" ")) for states in lists]))
    if sort == "most":
        return (sort, int(words[0]))
    if sort == "copy":
        return (sort, words[0])
    return (sort,)


def _states(words):
    return tuple([int(word) for word in words])
