"""For each function of the interface a right call, and for each kind of argument what is none of it."""

from eachinturn import (
    adding, alike, beside, best, carrying, days, halls, rings, rows, samples, staying, turning, undoing, weights,
)
from eachinturn.errors import (
    BadArrows, BadCount, BadDays, BadHall, BadLengths, BadMoves, BadOrder, BadOrders, BadPart, BadPlace, BadRing,
    BadSamples, BadState, BadTurns, BadWeb,
)
from tests.helpers import EIGHT, H, H_TEXT, PAIRS, WEB, as_lists, never_right, odd_objects

ABC, BAC, ACB, CAB = ("a", "b", "c"), ("b", "a", "c"), ("a", "c", "b"), ("c", "a", "b")
ONE, TWO = (1, 0, 0), (0, 1, 1)
TRIANGLE = (ABC, (("a", "b"), ("b", "c"), ("c", "a")))
UNDOABLE = (2, WEB, (("odd",), ("keep",), ("odd",)))
MOVES = [("turn",), ("swap", 1)]
QUIET = (2, WEB, (("most", 1), ("most", 2), ("most", 1)))
OTHER_HALL = (2, (("y", "x"), (("x", "y"),)), (("copy", "x"), ("odd",)))
SAMPLES = ((ONE, (1, 1, 1)), (TWO, (0, 0, 0)))
BACK = [("turn",), ("swap", 1), ("swap", 1), ("turn",), ("turn",)]

# Each function with its arguments by name, in their sequence; what judges any object has a right one of it.
CALLS = [
    (halls.is_web, {"thing": WEB}),
    (halls.neighbours, {"web": WEB, "place": "b"}),
    (halls.pieces, {"web": WEB}),
    (halls.is_forest, {"web": WEB}),
    (halls.is_hall, {"thing": H}),
    (halls.table_of, {"hall": H, "place": "b"}),
    (halls.with_tables, {"hall": H}),
    (halls.states_of, {"hall": H}),
    (halls.number_of, {"hall": H, "state": ONE}),
    (rows.write_hall, {"hall": H}),
    (rows.read_hall, {"text": H_TEXT}),
    (days.step, {"hall": H, "state": ONE, "place": "b"}),
    (days.day, {"hall": H, "order": BAC, "state": ONE}),
    (days.story, {"hall": H, "order": BAC, "state": ONE, "count": 3}),
    (days.after, {"hall": H, "order": BAC, "state": ONE, "count": 10 ** 30}),
    (days.day_table, {"hall": H, "order": BAC}),
    (days.ahead_of, {"hall": H, "order": BAC, "state": (1, 1, 1)}),
    (days.without_past, {"hall": H, "order": BAC}),
    (days.watched, {"hall": H, "order": BAC, "state": ONE, "place": "c", "count": 3}),
    (days.first_unlike_day, {"hall": H, "order": ABC, "other": BAC, "state": ONE}),
    (rings.rings, {"hall": UNDOABLE, "order": BAC}),
    (rings.ring_lengths, {"hall": UNDOABLE, "order": BAC}),
    (rings.ring_of, {"hall": H, "order": BAC, "state": ONE}),
    (rings.deepest, {"hall": H, "order": BAC}),
    (rings.return_paper, {"hall": H, "order": BAC, "state": ONE}),
    (rings.return_holds, {"hall": H, "order": BAC, "state": ONE, "thing": (1, 1, (1, 1, 1))}),
    (rings.same_far, {"hall": H, "order": BAC, "state": ONE, "other": TWO, "count": 3}),
    (rings.meet, {"hall": H, "order": BAC, "state": ONE, "other": TWO}),
    (alike.arrows, {"web": WEB, "order": BAC}),
    (alike.are_alike, {"web": WEB, "order": ACB, "other": CAB}),
    (alike.first_alike, {"web": WEB, "order": CAB}),
    (alike.count_alike, {"web": WEB, "order": CAB}),
    (alike.order_for, {"web": WEB, "arrows": (("a", "b"), ("c", "b"))}),
    (alike.arrow_ring, {"web": TRIANGLE, "arrows": TRIANGLE[1]}),
    (alike.arrow_ring_holds, {"web": TRIANGLE, "arrows": TRIANGLE[1], "thing": ("b", "c", "a")}),
    (alike.exchanges, {"web": WEB, "order": ACB, "other": CAB}),
    (alike.exchanges_hold, {"web": WEB, "order": ACB, "other": CAB, "thing": [0]}),
    (alike.parting, {"web": WEB, "order": ABC, "other": BAC}),
    (alike.parting_holds, {
        "web": WEB, "order": ABC, "other": BAC, "thing": ((("copy", "b"), ("copy", "a"), ("keep",)), (1, 0, 0)),
    }),
    (alike.count_arrows, {"web": WEB}),
    (alike.all_arrows, {"web": WEB}),
    (turning.forward, {"web": TRIANGLE, "order": BAC, "ring": ABC}),
    (turning.moves_to, {"web": WEB, "order": ABC, "other": BAC}),
    (turning.moves_hold, {"web": WEB, "order": ABC, "other": BAC, "thing": MOVES}),
    (turning.moved_order, {"web": WEB, "order": ABC, "moves": MOVES}),
    (turning.ring_between, {"web": TRIANGLE, "order": ABC, "other": BAC}),
    (turning.ring_between_holds, {"web": TRIANGLE, "order": ABC, "other": BAC, "thing": ("c", "b", "a")}),
    (turning.ring_counts, {"web": TRIANGLE, "order": BAC}),
    (turning.only_first, {"web": TRIANGLE, "order": BAC, "place": "c"}),
    (turning.count_classes, {"web": TRIANGLE}),
    (turning.classes, {"web": TRIANGLE}),
    (turning.class_arrows, {"web": TRIANGLE, "order": BAC}),
    (turning.turn_graph, {"web": TRIANGLE, "order": BAC}),
    (carrying.carried, {"hall": H, "order": ABC, "moves": MOVES, "state": ONE}),
    (carrying.carried_ring, {
        "hall": UNDOABLE, "order": ABC, "moves": MOVES, "ring": ((0, 1, 0), (1, 1, 1)),
    }),
    (carrying.ring_match, {"hall": UNDOABLE, "order": ABC, "moves": MOVES}),
    (carrying.back_moves, {"web": WEB, "order": ABC, "moves": MOVES}),
    (carrying.match_shift, {"hall": UNDOABLE, "order": ABC, "moves": BACK, "state": (1, 1, 1)}),
    (carrying.same_lengths, {"hall": H, "order": ABC, "other": BAC}),
    (carrying.length_table, {"hall": (2, TRIANGLE, (("odd",), ("odd",), ("odd",)))}),
    (staying.stays, {"hall": H, "state": ONE}),
    (staying.staying, {"hall": H}),
    (staying.restless, {"hall": H, "state": ONE}),
    (staying.staying_with, {"hall": H, "partial": (0, None, 0)}),
    (staying.days_to_rest, {"hall": H, "order": BAC, "state": ONE}),
    (staying.rests, {"hall": H, "order": BAC}),
    (staying.never_rest, {"hall": H, "order": BAC}),
    (staying.rest_orders, {"hall": H, "state": ONE, "other": (0, 0, 0)}),
    (undoing.can_be_undone, {"hall": H}),
    (undoing.undo_paper, {"hall": H}),
    (undoing.undone_hall, {"hall": UNDOABLE}),
    (undoing.day_before, {"hall": UNDOABLE, "order": BAC, "state": ONE}),
    (undoing.far_before, {"hall": UNDOABLE, "order": BAC, "state": ONE, "count": 3}),
    (undoing.turned_about, {"hall": H, "order": BAC}),
    (weights.weight, {"hall": QUIET, "state": ONE}),
    (weights.weights_down, {"hall": QUIET, "order": ABC, "state": TWO}),
    (weights.rest_bound, {"hall": QUIET}),
    (weights.lightest, {"hall": QUIET}),
    (weights.rest_reached, {"hall": QUIET, "state": (1, 1, 0)}),
    (weights.rest_steps, {"hall": QUIET, "state": (1, 1, 0), "other": (0, 0, 0)}),
    (weights.rest_steps_hold, {"hall": QUIET, "state": (1, 1, 0), "other": (0, 0, 0), "thing": ("b", "c", "a")}),
    (adding.day_matrix, {"hall": H, "order": BAC}),
    (adding.matrix_power, {"hall": H, "order": BAC, "count": 3}),
    (adding.sum_of, {"hall": H, "state": ONE, "other": TWO}),
    (adding.kernel, {"hall": H, "order": BAC}),
    (adding.least_round, {"hall": UNDOABLE, "order": BAC}),
    (beside.beside, {"hall": H, "other": OTHER_HALL}),
    (beside.woven_order, {
        "hall": H, "other": OTHER_HALL, "order": BAC, "second": ("x", "y"), "turns": (0, 1, 0, 0, 1),
    }),
    (beside.beside_lengths, {"lengths": [(1, 2), (4, 1)], "others": [(2, 1), (6, 3)]}),
    (beside.part_of, {"hall": H, "places": ABC}),
    (beside.split_lengths, {"hall": H, "order": BAC}),
    (samples.fitting_arrows, {"hall": H, "samples": SAMPLES}),
    (samples.fits, {"hall": H, "order": BAC, "samples": SAMPLES}),
    (samples.sure_arrows, {"hall": H, "samples": SAMPLES}),
    (samples.asking, {"hall": H, "orders": [ABC, BAC, CAB, BAC]}),
    (samples.unlike_state, {"hall": H, "order": ABC, "other": BAC}),
    (samples.like_days, {"hall": H}),
    (samples.sample_fault, {"hall": H, "samples": SAMPLES + ((ONE, TWO), (TWO, ONE))}),
    (best.quickest, {"hall": H, "state": ONE}),
    (best.slowest, {"hall": H, "state": ONE}),
    (best.longest_ring, {"hall": UNDOABLE}),
    (best.fewest_rings, {"hall": UNDOABLE}),
    (best.better_swap, {"hall": H, "order": ABC, "state": TWO}),
    (best.order_score, {"hall": H, "order": BAC}),
]

# What raises no error but for what stands ahead of it.
ANY = ("thing", "text")
ERRORS = {
    "web": BadWeb, "hall": BadHall, "place": BadPlace, "state": BadState, "order": BadOrder, "few": BadCount,
    "far": BadCount, "arrows": BadArrows, "ring": BadRing, "moves": BadMoves, "days": BadDays, "partial": BadState,
    "resting": BadState, "on a ring": BadState, "reached": BadState, "turns": BadTurns, "lengths": BadLengths,
    "places": BadPart, "samples": BadSamples, "orders": BadOrders,
}
# Arguments of which more, or something else, is wanted than their names tell.
KINDS = {
    ("same_far", "other"): "state", ("meet", "other"): "state", ("rest_orders", "other"): "resting",
    ("carried_ring", "ring"): "days", ("match_shift", "state"): "on a ring",
    ("story", "count"): "few", ("watched", "count"): "few", ("after", "count"): "far", ("same_far", "count"): "far",
    ("far_before", "count"): "far", ("matrix_power", "count"): "far", ("sum_of", "other"): "state",
    ("rest_steps", "other"): "reached", ("rest_steps_hold", "other"): "reached", ("beside", "other"): "hall",
    ("woven_order", "other"): "hall", ("woven_order", "second"): "order", ("beside_lengths", "others"): "lengths",
}


def kind_of(function, name):
    """Of which kind an argument is."""
    usual = "order" if name == "other" else name
    return KINDS.get((function.__name__, name), usual)


NEAR_WEBS = [
    H, (EIGHT + ("i",), ()), (EIGHT, PAIRS[:15]), (("a", "b", "b"), (("a", "b"),)), (("b",), (("b", "b"),)),
    (("b", "a"), (("a", "b"), ("b", "a"))), (("b", "A"), ()), (("b", "abcdefghi"), ()), (("b",), ()) + ((),),
    (("b",), (("b", "c"),)), (("b", True), ()), (("b", 1), ()), ("b", ()),
]
NEAR_HALLS = [
    WEB, (True, WEB, H[2]), (1, WEB, H[2]), (4, WEB, H[2]), (2, WEB, H[2][:2]), (2, WEB, H[2] + (("keep",),)),
    (2, WEB, (("copy", "c"), ("odd",), ("copy", "b"))), (2, WEB, (("most", 10), ("odd",), ("keep",))),
    (2, WEB, (("most", True), ("odd",), ("keep",))), (3, (EIGHT[:6], ()), (("keep",),) * 6), H + (None,), H[:2],
    (2, WEB, (("table", (0, 1, 0, 2)), ("odd",), ("keep",))),
    (2, WEB, (("table", (0, 1, 0, True)), ("odd",), ("keep",))),
    (2, (("a", "b", "c"), (("a", "b"), ("b", "c"), ("c", "b"))), H[2]),
]
NEAR_PLACES = ["d", "A", "B", "ab", "bc", "b ", " b", "b\n", 0, 1, 2, ("b",), ["b"], b"b", {"b"}, {"b": "b"}]
NEAR_STATES = [
    (1, 0), (1, 0, 0, 0), (2, 0, 0), (0, 0, 2), (0, -1, 0), (True, 0, 0), (1, False, 0), (1, 0, False), [1, 0, 0],
    (1, 0, None), (1, 0, "0"), ((1,), (0,), (0,)), 4, "100", (), {0: 1, 1: 0, 2: 0}, ((1, 0, 0),), (1, 0, 10 ** 59),
]
NEAR_ORDERS = [
    ("a", "b"), ("a", "b", "b"), ("b", "b", "b"), ("a", "b", "c", "a"), ("a", "b", "d"), ("x", "y", "z"), "abc",
    ["a", "b", "c"], ("a", "b", None), ("a", "b", 2), ("a", "b", True), (("a",), "b", "c"), ("a", "b", ["c"]), (0, 1, 2),
    {"a": 0, "b": 1, "c": 2}, {"a", "b", "c"}, ("a", "b", "C"), (ABC,), (),
]
NEAR_COUNTS = ["3", (3,), [3], {3}, {3: 3}, b"3", -1, -10 ** 30, True, False]
NEAR_ARROWS = [
    (("a", "b"),), (("a", "b"), ("a", "c")), (("b", "c"), ("a", "b")), (("a", "b"), ("a", "b")), ("ab", "bc"),
    (("a", "b"), ("b", "c"), ("b", "c")), (("a", "b"), ("b", "c", "a")), (("a", "a"), ("b", "c")), (("a", "b"), None),
]
NEAR_RINGS = [
    ("a", "b"), ("a",), ("a", "b", "c", "a"), ("a", "a", "b"), ("a", "b", "d"), ["a", "b", "c"], "abc", (0, 1, 2),
    ("a", "b", None), (("a", "b"), ("b", "c"), ("c", "a")),
]
NEAR_MOVES = [
    ("turn",), (("turn",),), [("swap", 0)], [("turn",), ("swap", 0)], [("swap", 2)], [("swap", -1)], [("swap", True)],
    [("turn", 0)], [("swap",)], [["turn"]], ["turn"], [None], [()], "turn", {0: ("turn",)}, [("turn",)] * 9 + [0],
]
NEAR_DAYS = [
    ((1, 1, 1), (0, 1, 0)), [(0, 1, 0), (1, 1, 1)], ((0, 1, 0),), ((0, 1, 0), (1, 1, 1), (0, 1, 0)), ((0, 1, 0), None),
    ((0, True, 0), (1, 1, 1)), ((0, 1, 0), (1, 1)), (0, 1, 0), ([0, 1, 0], [1, 1, 1]), ((0, 1, 0), (1, 1, 0)),
]
NEAR_PARTIALS = [
    (None, None), (None,) * 4, (2, None, None), (True, None, None), (None, False, 0), [None, None, None], (None, "0", 0),
    (None, -1, None), (None, (), None), ((0, None, 0),),
]
NEAR_TURNS = [
    (0, 0, 0, 1), (0, 0, 0, 1, 1, 1), (0, 0, 0, 0, 1), (0, 0, 1, 1, 1), (0, 0, 0, 1, True), (False, 0, 0, 1, 1),
    (0, 0, 0, 1, 2), (0, 0, 0, 1, -1), "00011", (0, 0, 0, 1, None), ((0, 0, 0), (1, 1)), (0,) * 5, (1,) * 5,
]
NEAR_LENGTHS = [
    [(2, 1), (1, 1)], [(2, 1), (2, 1)], [(2, 1), (2, 2)], [(0, 1)], [(1, 0)], [(True, 1)], [(1, True)], [(1, 1, 1)],
    [[1, 1]], ((1, 1),), [1], [(1, "1")], [(1, 1), None], {1: 1},
]
NEAR_PARTS = [
    ("b", "a", "c"), ("a", "b", "b", "c"), ("a",), ("b", "c"), ("a", "c"), ("a", "b", "c", "z"), ("a", "b", None), "abc",
    (0, 1, 2), ("a", "b", True), {"a": 0, "b": 1, "c": 2}, (ABC,),
]
NEAR_SAMPLES = [
    ((ONE, TWO),) * 21, (ONE, TWO), ((ONE, TWO, ONE),), ((ONE,),), ((ONE, (0, 1)),), ((ONE, (True, 0, 0)),), (ONE,),
    ((ONE, (0, 1, 2)),), ((ONE, None),), (None, (ONE, TWO)), ((ONE, TWO), ((0, 1, 1, 0), ONE)), {ONE: TWO}, [(ONE, TWO)],
    ((4, 3),), (("100", "011"),),
]
NEAR_ORDER_LISTS = [
    [ABC], (ABC,), [ABC] * 101, (ABC,) * 101, [], (), [ABC, ("a", "b")], [ABC, list(ABC)], [ABC, None], (ABC, "abc"),
    {ABC: BAC, BAC: ABC}, {ABC, BAC}, ABC, [ABC, ABC + ("a",)], [ABC, ("a", "b", "b")], [ABC, (0, 1, 2)],
]


def is_empty(thing, kind):
    return type(thing) is kind and len(thing) == 0


def no_lists(right):
    """Odd objects but for the empty list."""
    return [thing for thing in odd_objects() if not is_empty(thing, list)]


def no_counts(beyond):
    return lambda right: [thing for thing in never_right() if not (type(thing) is int and 0 <= thing < beyond)] + (
        NEAR_COUNTS + [beyond, beyond + 1]
    )


# For each kind, what is none of it: a list that is made anew, of the argument that is right in this call.
WRONG = {
    "web": lambda right: odd_objects() + NEAR_WEBS + list(as_lists(right)),
    "hall": lambda right: odd_objects() + NEAR_HALLS + list(as_lists(right)),
    "place": lambda right: odd_objects() + NEAR_PLACES,
    "state": lambda right: odd_objects() + NEAR_STATES,
    "order": lambda right: odd_objects() + NEAR_ORDERS + list(as_lists(right)),
    "few": no_counts(501),
    "far": no_counts(10 ** 30 + 1),
    "arrows": lambda right: odd_objects() + NEAR_ARROWS[:1] + list(as_lists(right)) + (
        NEAR_ARROWS[1:] if len(right) == 2 else []
    ),
    "ring": lambda right: odd_objects() + NEAR_RINGS,
    "moves": lambda right: no_lists(right) + NEAR_MOVES,
    "days": lambda right: odd_objects() + NEAR_DAYS + list(as_lists(right)),
    "partial": lambda right: odd_objects() + NEAR_PARTIALS + list(as_lists(right)),
    "resting": lambda right: odd_objects() + NEAR_STATES + [(1, 0, 0), (0, 1, 1)],
    "on a ring": lambda right: odd_objects() + NEAR_STATES,
    "reached": lambda right: odd_objects() + NEAR_STATES + [(1, 0, 0), (1, 1, 0), (0, 1, 1)],
    "turns": lambda right: odd_objects() + NEAR_TURNS + list(as_lists(right)),
    "lengths": lambda right: no_lists(right) + NEAR_LENGTHS,
    "places": lambda right: odd_objects() + NEAR_PARTS + list(as_lists(right)),
    "samples": lambda right: [thing for thing in odd_objects() if not is_empty(thing, tuple)] + NEAR_SAMPLES + list(
        as_lists(right)
    ),
    "orders": lambda right: odd_objects() + NEAR_ORDER_LISTS,
}


def wrong_ones(function, name, right):
    return WRONG[kind_of(function, name)](right)


def error_for(function, name):
    return ERRORS[kind_of(function, name)]
