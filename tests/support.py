"""What several test files use: values, an oracle over shares, and the table of all calls."""

from copy import deepcopy
from fractions import Fraction
from itertools import product
from math import gcd

from sliders import errors, moves, rows, tables

BIG = 10 ** 30 + 57
BIGGER = 10 ** 31 - 1

A = [1, 1, 1]
T = [(0, 1, 2), (1, 1, 3)]

NOT_INTEGERS = [None, True, False, "1", "", 1.0, b"1", [1], (1,), {1: 1}, {1}, [], (), {}, int, len]

NOT_WEIGHTS = NOT_INTEGERS + [
    0, 3, (4, 3, 2), "4:3:2", {0: 1, 1: 1}, [4], [1] * 9, [0, 1], [1, 0, 1], [3, -1], [-1, -2],
    [True, 2], [2, True], [1, False], [1, None], [1, "2"], [1, 2.0], [[1], [2]], [1, [2]], [(1, 2), (1, 2)],
]
NOT_ROWS = NOT_WEIGHTS + [[2, 4], [2, 2], [6, 10, 4], [3] * 8, [BIG * 2, BIG * 4]]

NOT_MOVES_ALONE = NOT_INTEGERS + [
    0, [0, 1, 2], "0=1/2", (0, 1), (0, 1, 2, 3), ((0, 1, 2),), [(0, 1, 2)],
    (-1, 1, 2), (8, 1, 2), (BIG, 1, 2), (0, 0, 1), (0, 0, 2), (0, -1, 2), (0, -1, -2), (0, 1, -2),
    (0, 1, 1), (0, 2, 2), (0, 2, 1), (0, 3, 2), (0, 2, 4), (0, 6, 9), (0, BIG * 2, BIG * 3),
    (True, 1, 2), (False, 1, 2), (0, True, 2), (1, 1, True), (0, False, True),
    (None, 1, 2), (0, None, 2), (0, 1, None), ("0", 1, 2), (0, "1", 2), (0, 1, "2"), (0, 1, 2.0), (0, [1], 2),
]
NOT_MOVES = [value for value in NOT_INTEGERS if value != []] + [
    0, 3, ((0, 1, 2),), (0, 1, 2), "0=1/2", {0: (0, 1, 2)}, [(0, 1, 2)] * 41, [[]], [[[]]],
] + [[move] for move in NOT_MOVES_ALONE] + [[(0, 1, 2), move] for move in NOT_MOVES_ALONE]

NOT_THREE_MOVES = NOT_MOVES + [[(3, 1, 2)], [(0, 1, 2), (7, 1, 3)]]
NOT_SLIDERS_OF_THREE = NOT_INTEGERS + [-1, -3, 3, 8, BIG, -BIG, (0,), [0], "0"]
NOT_NUMBERS_OF_SLIDERS = NOT_INTEGERS + [-2, 0, 1, 9, BIG, "3", [3], (3,)]
NOT_SHARES = NOT_INTEGERS + [
    0, 1, ((1, 2), (1, 2)), [(1, 1)], [(1, 9)] * 9, [[1, 2], [1, 2]], [(1, 2), [1, 2]], ["12", "12"],
    [(1, 2), (1, 3)], [(1, 2), (1, 2), (1, 2)], [(2, 3), (2, 3)], [(1, 1), (1, 1)],
    [(0, 1), (1, 1)], [(1, 1), (0, 5)], [(3, 2), (-1, 2)], [(-1, -2), (1, 2)], [(1, 0), (1, 2)], [(1, 2), (1, 0)],
    [(1, 2), (1, 2, 1)], [(1,), (1, 2)], [(1, 2), ()], [1, 1], [None, (1, 2)],
    [(True, 2), (1, 2)], [(1, 2), (True, 2)], [(1, True), (1, 2)], [("1", 2), (1, 2)], [(1.0, 2), (1, 2)],
]
OTHER_LENGTHS = [[1, 1], [1, 2, 3, 4]]

# For each call: the function, a good argument for each parameter, and per parameter the error and what is wrong.
# A parameter that takes any value has no error.
ROW = ("row", [4, 3, 2], errors.InvalidRowError, NOT_ROWS)
MOVES = ("moves", T, errors.InvalidMovesError, NOT_THREE_MOVES)
ANY_MOVES = ("moves", T, errors.InvalidMovesError, NOT_MOVES)
SLIDERS = ("sliders", 3, errors.InvalidNumberError, NOT_NUMBERS_OF_SLIDERS)
VALUE = ("value", [4, 3, 2], None, [])


def walked(*values, **named):
    return list(moves.walk_rows(*values, **named))


CALLS = [
    (rows.is_row, [VALUE]),
    (rows.row_with, [("weights", [8, 6, 4], errors.InvalidRowError, NOT_WEIGHTS)]),
    (rows.share_of, [ROW, ("slider", 1, errors.InvalidSliderError, NOT_SLIDERS_OF_THREE)]),
    (rows.shares_of, [ROW]),
    (rows.row_of, [("shares", [(1, 2), (2, 6), (1, 6)], errors.InvalidSharesError, NOT_SHARES)]),
    (rows.ratio_of, [
        ROW,
        ("slider", 0, errors.InvalidSliderError, NOT_SLIDERS_OF_THREE),
        ("other", 2, errors.InvalidSliderError, NOT_SLIDERS_OF_THREE),
    ]),
    (moves.is_move, [VALUE]),
    (moves.is_moves, [VALUE]),
    (moves.moved, [ROW, ("move", (0, 1, 2), errors.InvalidMoveError, NOT_MOVES_ALONE + [(3, 1, 2), (7, 1, 2)])]),
    (moves.row_after, [ROW, MOVES]),
    (walked, [ROW, MOVES]),
    (moves.merged, [ANY_MOVES]),
    (tables.table_of, [SLIDERS, MOVES]),
    (tables.do_same, [SLIDERS, MOVES, ("other_moves", T[::-1], errors.InvalidMovesError, NOT_THREE_MOVES)]),
    (tables.parting_row, [SLIDERS, MOVES, ("other_moves", T[::-1], errors.InvalidMovesError, NOT_THREE_MOVES)]),
    (tables.is_parting, [ANY_MOVES, ("other_moves", T[::-1], errors.InvalidMovesError, NOT_MOVES), VALUE]),
    (tables.forgotten, [ANY_MOVES]),
    (tables.are_alike, [
        ROW,
        ("other_row", [5, 3, 2], errors.InvalidRowError, NOT_ROWS + OTHER_LENGTHS),
        MOVES,
    ]),
]


def raised_by(call, *values, **named):
    """The class of the error that a call raises, None if it raises none."""
    try:
        call(*values, **named)
    except Exception as error:
        return error.__class__
    return None


def answer(call, values):
    """What a call returns for copies of the values."""
    return call(*deepcopy(values))


def all_moves(sliders, most_bottom):
    """All moves of so many sliders with a bottom up to this one."""
    return [
        (slider, top, bottom)
        for slider, bottom in product(range(sliders), range(2, most_bottom + 1))
        for top in range(1, bottom) if gcd(top, bottom) == 1
    ]


def all_rows(sliders, most_weight):
    """All rows of so many sliders with weights up to this one."""
    return [list(row) for row in product(range(1, most_weight + 1), repeat=sliders) if gcd(*row) == 1]


def long_moves(sliders, many, digits):
    """Some moves with numbers of so many digits, over all sliders."""
    low = 10 ** (digits - 1)
    found = []
    for at in range(many):
        bottom = low * 9 + at * at * 7 + 11
        top = bottom // (at % 5 + 2) + at
        while gcd(top, bottom) != 1:
            top += 1
        found.append(((at * at + at // 3) % sliders, top, bottom))
    return found


def shares_behind(shares, some_moves):
    """The shares behind moves, by the words of [7] alone."""
    shares = list(shares)
    for slider, top, bottom in some_moves:
        share = Fraction(top, bottom)
        factor = (1 - share) / (1 - shares[slider])
        shares = [share if at == slider else old * factor for at, old in enumerate(shares)]
    return shares


def fractions_of(row):
    """The shares of a row as fractions."""
    return [Fraction(weight, sum(row)) for weight in row]


def times_table(table, row):
    """The row that a table tells, not divided by a common divisor."""
    return [sum(number * weight for number, weight in zip(numbers, row)) for numbers in table]
