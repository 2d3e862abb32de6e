"""What several test files use: values, an oracle over shares, and the table of all calls."""

from copy import deepcopy
from fractions import Fraction
from itertools import product
from math import gcd

from sliders import errors, lists, logs, moves, origins, plans, rows, tables

BIG = 10 ** 30 + 57
BIGGER = 10 ** 31 - 1

A = [1, 1, 1]
T = [(0, 1, 2), (1, 1, 3)]

NOT_INTEGERS = [None, True, False, "1", "", 1.0, b"1", [1], (1,), {1: 1}, {1}, [], (), {}, int, len]

NOT_WEIGHTS = NOT_INTEGERS + [
    0, 3, (4, 3, 2), "4:3:2", {0: 1, 1: 1}, [4], [1] * 9, [0, 1], [1, 0, 1], [3, -1], [-1, -2],
    [True, 2], [2, True], [1, False], [1, None], [1, "2"], [1, 2.0], [[1], [2]], [1, [2]], [(1, 2), (1, 2)],
]
NOT_ROWS = NOT_WEIGHTS + [[2, 4], [2, 2], [6, 10, 4], [3] * 8, [BIG * 2, BIG * 4]]

NOT_MOVES_ALONE = NOT_INTEGERS + [
    0, [0, 1, 2], "0=1/2", (0, 1), (0, 1, 2, 3), ((0, 1, 2),), [(0, 1, 2)],
    (-1, 1, 2), (8, 1, 2), (BIG, 1, 2), (0, 0, 1), (0, 0, 2), (0, -1, 2), (0, -1, -2), (0, 1, -2),
    (0, 1, 1), (0, 2, 2), (0, 2, 1), (0, 3, 2), (0, 2, 4), (0, 6, 9), (0, BIG * 2, BIG * 3),
    (True, 1, 2), (False, 1, 2), (0, True, 2), (1, 1, True), (0, False, True),
    (None, 1, 2), (0, None, 2), (0, 1, None), ("0", 1, 2), (0, "1", 2), (0, 1, "2"), (0, 1, 2.0), (0, [1], 2),
]
NOT_MOVES = [value for value in NOT_INTEGERS if value != []] + [
    0, 3, ((0, 1, 2),), (0, 1, 2), "0=1/2", {0: (0, 1, 2)}, [(0, 1, 2)] * 41, [[]], [[[]]],
] + [[move] for move in NOT_MOVES_ALONE] + [[(0, 1, 2), move] for move in NOT_MOVES_ALONE]

NOT_THREE_MOVES = NOT_MOVES + [[(3, 1, 2)], [(0, 1, 2), (7, 1, 3)]]
NOT_SLIDERS_OF_THREE = NOT_INTEGERS + [-1, -3, 3, 8, BIG, -BIG, (0,), [0], "0"]
NOT_NUMBERS_OF_SLIDERS = NOT_INTEGERS + [-2, 0, 1, 9, BIG, "3", [3], (3,)]
NOT_SHARES = NOT_INTEGERS + [
    0, 1, ((1, 2), (1, 2)), [(1, 1)], [(1, 9)] * 9, [[1, 2], [1, 2]], [(1, 2), [1, 2]], ["12", "12"],
    [(1, 2), (1, 3)], [(1, 2), (1, 2), (1, 2)], [(2, 3), (2, 3)], [(1, 1), (1, 1)],
    [(0, 1), (1, 1)], [(1, 1), (0, 5)], [(3, 2), (-1, 2)], [(-1, -2), (1, 2)], [(1, 0), (1, 2)], [(1, 2), (1, 0)],
    [(1, 2), (1, 2, 1)], [(1,), (1, 2)], [(1, 2), ()], [1, 1], [None, (1, 2)],
    [(True, 2), (1, 2)], [(1, 2), (True, 2)], [(1, True), (1, 2)], [("1", 2), (1, 2)], [(1.0, 2), (1, 2)],
]
NOT_LOGS = NOT_INTEGERS + [
    0, "1:1:1", A, [T], ([1, 1, 1],), [(1, 1, 1)], ((1, 1, 1),), {0: [1, 1, 1]}, [[A]], [[]], [None], [A, None], [A, []],
    [[1, 1]], [[1, 2], [1, 2]], [A, [1, 1]], [[1, 1], A], [A, [1, 1, 1, 1]], [[1, 1, 1, 1], A, A], [A, A, [1, 2]],
    [[2, 4, 2]], [A, [2, 2, 2]], [[0, 1, 1]], [A, [1, -1, 1]], [[True, 1, 1]], [A, [1, 1, False]], [[1] * 9],
    [A] * 42, [[4, 3, 2]] * 43, [A, [1, 1, "1"]], [[1.0, 1, 1]],
]
OTHER_LENGTHS = [[1, 1], [1, 2, 3, 4]]

ENDLESS = []
ENDLESS.append(ENDLESS)


class Odd:
    """A value of another kind, which claims to equal everything."""

    def __eq__(self, other):
        return True


ANY_VALUES = NOT_ROWS + NOT_MOVES_ALONE + NOT_MOVES + NOT_LOGS + NOT_SHARES + [
    float("nan"), 1j, "row", "\ud800", b"\xff", bytearray(b"1"), -BIG, [-1, -2, -3], {"row": [1, 1, 1]}, {1, 2}, range(3),
    ENDLESS, [ENDLESS, 1], (ENDLESS, 1, 2), object(), Odd(), [Odd(), Odd(), Odd()], (Odd(), Odd(), Odd()), [[[[[]]]]],
    [[[1, 1, 1]]], [(None, None)], NotImplemented, ..., type, Odd, lambda: None, errors.SliderError("words"), ValueError,
]

# For each call: the function, a good argument for each parameter, and per parameter the error and what is wrong.
# A parameter that takes any value has no error.
ROW = ("row", [4, 3, 2], errors.InvalidRowError, NOT_ROWS)
MOVES = ("moves", T, errors.InvalidMovesError, NOT_THREE_MOVES)
ANY_MOVES = ("moves", T, errors.InvalidMovesError, NOT_MOVES)
SLIDERS = ("sliders", 3, errors.InvalidNumberError, NOT_NUMBERS_OF_SLIDERS)
VALUE = ("value", [4, 3, 2], None, [])
FULL_ROW = ("row", [4, 3, 2], errors.InvalidRowError, NOT_ROWS + OTHER_LENGTHS)
OTHER_ROW = ("other_row", [5, 3, 2], errors.InvalidRowError, NOT_ROWS + OTHER_LENGTHS)
LOG = ("log", [A, [2, 1, 1], [4, 3, 2]], errors.InvalidLogError, NOT_LOGS)


def walked(*values, **named):
    return list(moves.walk_rows(*values, **named))


CALLS = [
    (rows.is_row, [VALUE]),
    (rows.row_with, [("weights", [8, 6, 4], errors.InvalidRowError, NOT_WEIGHTS)]),
    (rows.share_of, [ROW, ("slider", 1, errors.InvalidSliderError, NOT_SLIDERS_OF_THREE)]),
    (rows.shares_of, [ROW]),
    (rows.row_of, [("shares", [(1, 2), (2, 6), (1, 6)], errors.InvalidSharesError, NOT_SHARES)]),
    (rows.ratio_of, [
        ROW,
        ("slider", 0, errors.InvalidSliderError, NOT_SLIDERS_OF_THREE),
        ("other", 2, errors.InvalidSliderError, NOT_SLIDERS_OF_THREE),
    ]),
    (moves.is_move, [VALUE]),
    (moves.is_moves, [VALUE]),
    (moves.moved, [ROW, ("move", (0, 1, 2), errors.InvalidMoveError, NOT_MOVES_ALONE + [(3, 1, 2), (7, 1, 2)])]),
    (moves.row_after, [ROW, MOVES]),
    (walked, [ROW, MOVES]),
    (moves.merged, [ANY_MOVES]),
    (tables.table_of, [SLIDERS, MOVES]),
    (tables.do_same, [SLIDERS, MOVES, ("other_moves", T[::-1], errors.InvalidMovesError, NOT_THREE_MOVES)]),
    (tables.parting_row, [SLIDERS, MOVES, ("other_moves", T[::-1], errors.InvalidMovesError, NOT_THREE_MOVES)]),
    (tables.is_parting, [ANY_MOVES, ("other_moves", T[::-1], errors.InvalidMovesError, NOT_MOVES), VALUE]),
    (tables.forgotten, [ANY_MOVES]),
    (tables.are_alike, [ROW, OTHER_ROW, MOVES]),
    (origins.origin_of, [ROW, MOVES]),
    (origins.start_with, [
        ROW,
        ("moves", T, errors.InvalidMovesError, NOT_THREE_MOVES + [[]]),
        ("top", 5, errors.InvalidNumberError, NOT_INTEGERS + [0, -1, -5, 7, 8, BIG, -BIG]),
        ("bottom", 7, errors.InvalidNumberError, NOT_INTEGERS + [0, -1, -7, 1, 4, 5, -BIG]),
    ]),
    (origins.refused_at, [ROW, MOVES]),
    (origins.is_start, [ROW, MOVES, VALUE]),
    (plans.fewest_moves, [ROW, OTHER_ROW]),
    (plans.count_plans, [ROW, OTHER_ROW]),
    (plans.nth_plan, [
        ("row", A, errors.InvalidRowError, NOT_ROWS),
        ("other_row", [4, 3, 2], errors.InvalidRowError, NOT_ROWS + OTHER_LENGTHS),
        ("index", 4, errors.InvalidNumberError, NOT_INTEGERS + [-1, -6, 6, 7, BIG, -BIG]),
    ]),
    (plans.plan_rank, [ROW, MOVES]),
    (plans.is_plan, [ROW, OTHER_ROW, VALUE]),
    (plans.sliders_kept, [ROW, OTHER_ROW]),
    (logs.is_log, [VALUE]),
    (logs.moves_of, [LOG]),
    (logs.fewest_in, [LOG]),
    (logs.log_of, [ROW, MOVES]),
]

MOVE_LIST = lists.MoveList(3, *T)
METHOD_CALLS = [(MOVE_LIST.back, [FULL_ROW]), (MOVE_LIST.__call__, [FULL_ROW])]


def raised_by(call, *values, **named):
    """The class of the error that a call raises, None if it raises none."""
    error = raised_error(call, *values, **named)
    return None if error is None else error.__class__


def raised_error(call, *values, **named):
    """The error that a call raises, None if it raises none."""
    try:
        call(*values, **named)
    except Exception as error:
        return error
    return None


def answer(call, values):
    """What a call returns for copies of the values."""
    return call(*deepcopy(values))


def all_moves(sliders, most_bottom):
    """All moves of so many sliders with a bottom up to this one."""
    return [
        (slider, top, bottom)
        for slider, bottom in product(range(sliders), range(2, most_bottom + 1))
        for top in range(1, bottom) if gcd(top, bottom) == 1
    ]


def all_rows(sliders, most_weight):
    """All rows of so many sliders with weights up to this one."""
    return [list(row) for row in product(range(1, most_weight + 1), repeat=sliders) if gcd(*row) == 1]


def long_moves(sliders, many, digits):
    """Some moves with numbers of so many digits, over all sliders."""
    low = 10 ** (digits - 1)
    found = []
    for at in range(many):
        bottom = low * 9 + at * at * 7 + 11
        top = bottom // (at % 5 + 2) + at
        while gcd(top, bottom) != 1:
            top += 1
        found.append(((at * at + at // 3) % sliders, top, bottom))
    return found


def shares_behind(shares, some_moves):
    """The shares behind moves, by the words of [7] alone."""
    shares = list(shares)
    for slider, top, bottom in some_moves:
        share = Fraction(top, bottom)
        factor = (1 - share) / (1 - shares[slider])
        shares = [share if at == slider else old * factor for at, old in enumerate(shares)]
    return shares


def fractions_of(row):
    """The shares of a row as fractions."""
    return [Fraction(weight, sum(row)) for weight in row]


def times_table(table, row):
    """The row that a table tells, not divided by a common divisor."""
    return [sum(number * weight for number, weight in zip(numbers, row)) for numbers in table]
