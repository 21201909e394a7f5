"""Halls and odd objects that several tests use."""

WEB = (("a", "b", "c"), (("a", "b"), ("b", "c")))
H = (2, WEB, (("copy", "b"), ("odd",), ("copy", "b")))

H_TEXT = """states 2
place a
place b
place c
road a b
road b c
rule copy b
rule odd
rule copy b"""

# Names whose sequence as texts is not that of their numbers, roads in no sequence at all.
MIXED_WEB = (("m", "c", "z9", "a", "k"), (("z9", "c"), ("k", "m"), ("a", "z9"), ("c", "m")))

# d is: m 2, c 2, z9 2, a 1, k 1
EVERY_SORT = (
    2,
    (("m", "c", "z9", "a", "k", "x", "lone"), (("z9", "c"), ("k", "m"), ("a", "z9"), ("c", "m"), ("x", "m"))),
    (
        ("table", (0, 1, 1, 0, 1, 0, 0, 1, 1, 1, 0, 0, 1, 0, 1, 0)),
        ("sum", ((0, 1, 1), (1, 0, 1))),
        ("most", 2),
        ("copy", "z9"),
        ("least",),
        ("greatest",),
        ("odd",),
    ),
)

THREE_STATES = (
    3,
    (("q", "b", "p1", "a"), (("b", "q"), ("q", "a"))),
    (
        ("sum", ((0, 1, 2, 0, 1), (2, 2, 1, 0, 0), (1, 0, 2, 1, 1))),
        ("table", (2, 1, 0, 0, 2, 1, 1, 0, 2)),
        ("sum", ((2,), (0,), (1,))),
        ("keep",),
    ),
)

EIGHT = ("a", "b", "c", "d", "e", "f", "g", "h")
# 28 pairs of places: enough for any number of roads that is asked for
PAIRS = tuple((one, other) for at, one in enumerate(EIGHT) for other in EIGHT[at + 1:])


class Hostile:
    """An object that can be asked nothing."""

    def _refuse(self, *_):
        raise RuntimeError("this object was asked something")

    __eq__ = __ne__ = __lt__ = __gt__ = __le__ = __ge__ = _refuse
    __hash__ = __len__ = __iter__ = __bool__ = __getitem__ = __contains__ = __int__ = __index__ = _refuse


class LikeAll:
    """An object that is equal to every other one."""

    def __eq__(self, other):
        return True

    def __hash__(self):
        return hash("a")


def never_right():
    """Objects that are right nowhere in a web or a hall; new ones each time."""
    return [
        None, True, False, -1, 10, 10 ** 59, "", " ", "A", "\n", "a b", "1", b"", b"a", [], ["a"], [()], {}, {"a": 1},
        set(), {"a"}, frozenset(), range(2), object(), int, len, Hostile(), LikeAll(), (None,), ((),),
    ]


def odd_objects():
    """Objects that are neither a web, a hall, a place of the used webs, nor a state of a hall."""
    return never_right() + [
        0, 1, 2, 3, (), "ab", "place", "keep", ("keep",), ("a", "b", "c", "d"), (0, 0, 2), (0, True, 0), [0, 0, 0],
    ]


def as_lists(thing):
    """Each way of putting one list in the place of a tuple."""
    if isinstance(thing, tuple):
        yield list(thing)
        for at, part in enumerate(thing):
            for changed in as_lists(part):
                yield thing[:at] + (changed,) + thing[at + 1:]


def replaced(thing, instead):
    """Each way of putting something else in the place of one part, at every depth; the whole one, too."""
    yield instead
    if isinstance(thing, tuple):
        for at, part in enumerate(thing):
            for changed in replaced(part, instead):
                yield thing[:at] + (changed,) + thing[at + 1:]


def put_in(thing, more):
    """Each way of putting one thing more behind the others of a tuple, at every depth."""
    if isinstance(thing, tuple):
        yield thing + (more,)
        for at, part in enumerate(thing):
            for changed in put_in(part, more):
                yield thing[:at] + (changed,) + thing[at + 1:]


def frozen(thing):
    """What a thing is made of, as a text that changes if anything in it does."""
    if isinstance(thing, (tuple, list)):
        return f"{type(thing).__name__}({', '.join(frozen(part) for part in thing)})"
    if isinstance(thing, dict):
        return f"dict({', '.join(frozen(pair) for pair in thing.items())})"
    if isinstance(thing, (set, frozenset)):
        return f"{type(thing).__name__}({', '.join(sorted(map(frozen, thing)))})"
    if isinstance(thing, (int, str, bytes, type(None))):
        return repr(thing)
    return f"object {id(thing)}"
