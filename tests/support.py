"""What several test files use: values, an oracle over shares, and the table of all calls."""

from copy import deepcopy
from fractions import Fraction
from itertools import product
from math import gcd

from sliders import boards, errors, lists, logs, moves, origins, plans, rounds, rows, tables, text, trials

BIG = 10 ** 30 + 57
BIGGER = 10 ** 31 - 1

A = [1, 1, 1]
T = [(0, 1, 2), (1, 1, 3)]

NOT_INTEGERS = [None, True, False, "1", "", 1.0, b"1", [1], (1,), {1: 1}, {1}, [], (), {}, int, len]

NOT_WEIGHTS = NOT_INTEGERS + [
    0, 3, (4, 3, 2), "4:3:2", {0: 1, 1: 1}, [4], [1] * 9, [0, 1], [1, 0, 1], [3, -1], [-1, -2],
    [True, 2], [2, True], [1, False], [1, None], [1, "2"], [1, 2.0], [[1], [2]], [1, [2]], [(1, 2), (1, 2)],
]
NOT_ROWS = NOT_WEIGHTS + [[2, 4], [2, 2], [6, 10, 4], [3] * 8, [BIG * 2, BIG * 4]]

NOT_MOVES_ALONE = NOT_INTEGERS + [
    0, [0, 1, 2], "0=1/2", (0, 1), (0, 1, 2, 3), ((0, 1, 2),), [(0, 1, 2)],
    (-1, 1, 2), (8, 1, 2), (BIG, 1, 2), (0, 0, 1), (0, 0, 2), (0, -1, 2), (0, -1, -2), (0, 1, -2),
    (0, 1, 1), (0, 2, 2), (0, 2, 1), (0, 3, 2), (0, 2, 4), (0, 6, 9), (0, BIG * 2, BIG * 3),
    (True, 1, 2), (False, 1, 2), (0, True, 2), (1, 1, True), (0, False, True),
    (None, 1, 2), (0, None, 2), (0, 1, None), ("0", 1, 2), (0, "1", 2), (0, 1, "2"), (0, 1, 2.0), (0, [1], 2),
]
NOT_MOVES = [value for value in NOT_INTEGERS if value != []] + [
    0, 3, ((0, 1, 2),), (0, 1, 2), "0=1/2", {0: (0, 1, 2)}, [(0, 1, 2)] * 41, [[]], [[[]]],
] + [[move] for move in NOT_MOVES_ALONE] + [[(0, 1, 2), move] for move in NOT_MOVES_ALONE]

NOT_THREE_MOVES = NOT_MOVES + [[(3, 1, 2)], [(0, 1, 2), (7, 1, 3)]]
NOT_SLIDERS_OF_THREE = NOT_INTEGERS + [-1, -3, 3, 8, BIG, -BIG, (0,), [0], "0"]
NOT_NUMBERS_OF_SLIDERS = NOT_INTEGERS + [-2, 0, 1, 9, BIG, "3", [3], (3,)]
NOT_SHARES = NOT_INTEGERS + [
    0, 1, ((1, 2), (1, 2)), [(1, 1)], [(1, 9)] * 9, [[1, 2], [1, 2]], [(1, 2), [1, 2]], ["12", "12"],
    [(1, 2), (1, 3)], [(1, 2), (1, 2), (1, 2)], [(2, 3), (2, 3)], [(1, 1), (1, 1)],
    [(0, 1), (1, 1)], [(1, 1), (0, 5)], [(3, 2), (-1, 2)], [(-1, -2), (1, 2)], [(1, 0), (1, 2)], [(1, 2), (1, 0)],
    [(1, 2), (1, 2, 1)], [(1,), (1, 2)], [(1, 2), ()], [1, 1], [None, (1, 2)],
    [(True, 2), (1, 2)], [(1, 2), (True, 2)], [(1, True), (1, 2)], [("1", 2), (1, 2)], [(1.0, 2), (1, 2)],
]
NOT_LOGS = NOT_INTEGERS + [
    0, "1:1:1", A, [T], ([1, 1, 1],), [(1, 1, 1)], ((1, 1, 1),), {0: [1, 1, 1]}, [[A]], [[]], [None], [A, None], [A, []],
    [[1, 1]], [[1, 2], [1, 2]], [A, [1, 1]], [[1, 1], A], [A, [1, 1, 1, 1]], [[1, 1, 1, 1], A, A], [A, A, [1, 2]],
    [[2, 4, 2]], [A, [2, 2, 2]], [[0, 1, 1]], [A, [1, -1, 1]], [[True, 1, 1]], [A, [1, 1, False]], [[1] * 9],
    [A] * 42, [[4, 3, 2]] * 43, [A, [1, 1, "1"]], [[1.0, 1, 1]],
]
OTHER_LENGTHS = [[1, 1], [1, 2, 3, 4]]
NOT_ROUNDS = NOT_THREE_MOVES + [
    [], [(0, 1, 2), (0, 1, 2)], [(0, 1, 2), (0, 1, 3)], [(1, 1, 5), (0, 1, 2), (1, 1, 3)],
    [(0, 1, 5), (1, 1, 5), (2, 1, 5)], [(2, 1, 2), (0, 1, 2), (1, 1, 2)], [(0, 1, 2)] * 40,
]
NOT_TIMES = NOT_INTEGERS + [-1, -12, 13, 14, BIG, -BIG]
NOT_LOCKS_OF_FOUR = [value for value in NOT_INTEGERS if type(value) is not list] + [
    0, 2, (2,), (0, 1), "2", {2: True}, [4], [-1], [-4], [0, 4], [BIG], [0, 1, 2], [0, 1, 2, 3], [1, 1], [2, 0, 2],
    [True], [False], [2, True], [False, 3], [None], [1, None], ["1"], [1.0], [[1]], [(1,)], [0] * 400, [[]],
]
NOT_STEPS = NOT_INTEGERS + [-10, 0, 1, -2, 1001, 1002, BIG, [10], "10"]
NOT_ITEMS = [value for value in NOT_INTEGERS if type(value) is not list] + [
    0, 3, (0, 1, 2), ((0, 1, 2),), "0=1/2", {0: (0, 1, 2)}, [(0, 1, 2)] * 41, [None] * 41, [(9, 9, 9)] * 400,
]
NOT_STRINGS = [value for value in NOT_INTEGERS if type(value) is not str] + [
    0, 12, [4, 3, 2], ["1:2"], b"1:2", ("1:2",),
]
NOT_NUMBER_WORDS = [
    "", " ", "01", "00", "007", "+1", "-1", "--1", "1.0", "1e3", "1_0", "0x1", "0b1", "a", "1a", "one", "#", ".",
    " 1", "1 ", "\t1", "1\n", "\n1", "1,0", "\u0661", "\u00b2", "\u00b9", "\uff11", "\u0967", "1\u0662", "\u2460",
    "\u00bd", "\u4e00", "\ud800", "1" * 32, "9" * 40, "9" * 2000, "0" * 31, "0" * 32, "0" + "1" * 30, "0" + "1" * 31,
]
NOT_ROW_TEXTS = NOT_STRINGS + [
    "", "1", "4", ":", "::", ":1:2", "1:2:", "1::2", "1:2::", " 1:2", "1:2 ", "1 :2", "1: 2", "1 2", "1;2", "1/2",
    "1-2", "2:4", "3:3:3", "0:1", "1:0", "0:0", "1:2:0", ":".join(["1"] * 9), ":".join(["1"] * 400), "[1, 2]", "1,2",
    "1:2\n", "0=1/2", "\n", "1:2\n1:2",
] + [word + ":2" for word in NOT_NUMBER_WORDS] + ["3:2:" + word for word in NOT_NUMBER_WORDS]
NOT_MOVES_TEXTS = NOT_STRINGS + [
    " ", "  ", "\n", " 0=1/2", "0=1/2 ", "0=1/2  1=1/3", "0=1/2\n1=1/3", "0=1/2\t1=1/3", "0=1/2,1=1/3", "0=1/2 1=1/3 ",
    "0 =1/2", "0= 1/2", "0=1 /2", "0=1/ 2", "0", "0=", "0=1", "0=1/", "=1/2", "0=/2", "1/2", "0/1=2", "0:1/2", "0==1/2",
    "0=1//2", "0=1=1/2", "0=1/2/3", "0=1/2=", "=0=1/2", "0=1/2 x", "x 0=1/2", "(0, 1, 2)", "1:2", "/=", "=/", "=",
    "8=1/2", "9=1/2", "10=1/2", "1111111111=1/2", "0=2/4", "0=6/9", "0=2/2", "0=1/1", "0=3/2", "0=0/1", "0=0/2",
    "0=1/0", "0=0/0", " ".join(["0=1/2"] * 41), " ".join(["0=1/2"] * 42), " ".join(["0=1/2"] * 40) + " ", "0=1/2 8=1/2",
    "0=1/2 0=2/4", "0=1/2 0=1/1",
] + [
    form.replace("N", word)
    for form in ("N=1/2", "0=N/" + "9" * 31, "0=1/N", "0=1/2 0=1/N") for word in NOT_NUMBER_WORDS
]
NOT_WIDTHS = NOT_INTEGERS + [0, -1, -10, 101, 102, 1000, BIG, -BIG, "10", [10]]

ENDLESS = []
ENDLESS.append(ENDLESS)


class Odd:
    """A value of another kind, which claims to equal everything."""

    def __eq__(self, other):
        return True


ANY_VALUES = NOT_ROWS + NOT_MOVES_ALONE + NOT_MOVES + NOT_LOGS + NOT_SHARES + [
    float("nan"), 1j, "row", "\ud800", b"\xff", bytearray(b"1"), -BIG, [-1, -2, -3], {"row": [1, 1, 1]}, {1, 2}, range(3),
    ENDLESS, [ENDLESS, 1], (ENDLESS, 1, 2), object(), Odd(), [Odd(), Odd(), Odd()], (Odd(), Odd(), Odd()), [[[[[]]]]],
    [[[1, 1, 1]]], [(None, None)], NotImplemented, ..., type, Odd, lambda: None, errors.SliderError("words"), ValueError,
]

# For each call: the function, a good argument for each parameter, and per parameter the error and what is wrong.
# A parameter that takes any value has no error.
ROW = ("row", [4, 3, 2], errors.InvalidRowError, NOT_ROWS)
MOVES = ("moves", T, errors.InvalidMovesError, NOT_THREE_MOVES)
ANY_MOVES = ("moves", T, errors.InvalidMovesError, NOT_MOVES)
SLIDERS = ("sliders", 3, errors.InvalidNumberError, NOT_NUMBERS_OF_SLIDERS)
VALUE = ("value", [4, 3, 2], None, [])
FULL_ROW = ("row", [4, 3, 2], errors.InvalidRowError, NOT_ROWS + OTHER_LENGTHS)
OTHER_ROW = ("other_row", [5, 3, 2], errors.InvalidRowError, NOT_ROWS + OTHER_LENGTHS)
LOG = ("log", [A, [2, 1, 1], [4, 3, 2]], errors.InvalidLogError, NOT_LOGS)
ROUND = ("moves", T, errors.InvalidRoundError, NOT_ROUNDS)
BOARD = ("board", boards.Board([4, 3, 2]), None, [])
ITEMS = ("moves", T, errors.InvalidMovesError, NOT_ITEMS)


def walked(*values, **named):
    return list(moves.walk_rows(*values, **named))


CALLS = [
    (rows.is_row, [VALUE]),
    (rows.row_with, [("weights", [8, 6, 4], errors.InvalidRowError, NOT_WEIGHTS)]),
    (rows.share_of, [ROW, ("slider", 1, errors.InvalidSliderError, NOT_SLIDERS_OF_THREE)]),
    (rows.shares_of, [ROW]),
    (rows.row_of, [("shares", [(1, 2), (2, 6), (1, 6)], errors.InvalidSharesError, NOT_SHARES)]),
    (rows.ratio_of, [
        ROW,
        ("slider", 0, errors.InvalidSliderError, NOT_SLIDERS_OF_THREE),
        ("other", 2, errors.InvalidSliderError, NOT_SLIDERS_OF_THREE),
    ]),
    (moves.is_move, [VALUE]),
    (moves.is_moves, [VALUE]),
    (moves.moved, [ROW, ("move", (0, 1, 2), errors.InvalidMoveError, NOT_MOVES_ALONE + [(3, 1, 2), (7, 1, 2)])]),
    (moves.row_after, [ROW, MOVES]),
    (walked, [ROW, MOVES]),
    (moves.merged, [ANY_MOVES]),
    (tables.table_of, [SLIDERS, MOVES]),
    (tables.do_same, [SLIDERS, MOVES, ("other_moves", T[::-1], errors.InvalidMovesError, NOT_THREE_MOVES)]),
    (tables.parting_row, [SLIDERS, MOVES, ("other_moves", T[::-1], errors.InvalidMovesError, NOT_THREE_MOVES)]),
    (tables.is_parting, [ANY_MOVES, ("other_moves", T[::-1], errors.InvalidMovesError, NOT_MOVES), VALUE]),
    (tables.forgotten, [ANY_MOVES]),
    (tables.are_alike, [ROW, OTHER_ROW, MOVES]),
    (origins.origin_of, [ROW, MOVES]),
    (origins.start_with, [
        ROW,
        ("moves", T, errors.InvalidMovesError, NOT_THREE_MOVES + [[]]),
        ("top", 5, errors.InvalidNumberError, NOT_INTEGERS + [0, -1, -5, 7, 8, BIG, -BIG]),
        ("bottom", 7, errors.InvalidNumberError, NOT_INTEGERS + [0, -1, -7, 1, 4, 5, -BIG]),
    ]),
    (origins.refused_at, [ROW, MOVES]),
    (origins.is_start, [ROW, MOVES, VALUE]),
    (plans.fewest_moves, [ROW, OTHER_ROW]),
    (plans.count_plans, [ROW, OTHER_ROW]),
    (plans.nth_plan, [
        ("row", A, errors.InvalidRowError, NOT_ROWS),
        ("other_row", [4, 3, 2], errors.InvalidRowError, NOT_ROWS + OTHER_LENGTHS),
        ("index", 4, errors.InvalidNumberError, NOT_INTEGERS + [-1, -6, 6, 7, BIG, -BIG]),
    ]),
    (plans.plan_rank, [ROW, MOVES]),
    (plans.is_plan, [ROW, OTHER_ROW, VALUE]),
    (plans.sliders_kept, [ROW, OTHER_ROW]),
    (logs.is_log, [VALUE]),
    (logs.moves_of, [LOG]),
    (logs.fewest_in, [LOG]),
    (logs.log_of, [ROW, MOVES]),
    (rounds.after_rounds, [ROW, ROUND, ("times", 2, errors.InvalidNumberError, NOT_TIMES)]),
    (rounds.is_steady, [ROW, ROUND]),
    (rounds.limit_of, [ROW, ROUND]),
    (trials.row_in_trial, [BOARD, ITEMS]),
    (trials.passed, [BOARD, ITEMS]),
    (text.format_row, [ROW]),
    (text.format_moves, [ANY_MOVES]),
    (text.parse_row, [("text", "4:3:2", errors.InvalidFormatError, NOT_ROW_TEXTS)]),
    (text.parse_moves, [("text", "0=1/2 1=1/3", errors.InvalidFormatError, NOT_MOVES_TEXTS)]),
    (text.bars, [ROW, ("width", 10, errors.InvalidNumberError, NOT_WIDTHS)]),
]

FOUR = ("row", [4, 3, 2, 1], errors.InvalidRowError, NOT_ROWS)
LOCKED = ("locked", [2, 0], errors.InvalidLocksError, NOT_LOCKS_OF_FOUR)
STEPS = ("steps", 10, errors.InvalidNumberError, NOT_STEPS)
CLASS_CALLS = [
    (boards.Board, [FOUR]),
    (boards.LockedBoard, [FOUR, LOCKED]),
    (boards.StepBoard, [FOUR, STEPS]),
    (boards.LockedStepBoard, [FOUR, LOCKED, STEPS]),
    (trials.Trial, [BOARD]),
]

MOVE_LIST = lists.MoveList(3, *T)
METHOD_CALLS = [
    (MOVE_LIST.back, [FULL_ROW]),
    (MOVE_LIST.__call__, [FULL_ROW]),
    (boards.Board([4, 3, 2]).shows, [("slider", 1, errors.InvalidSliderError, NOT_SLIDERS_OF_THREE)]),
]


def raised_by(call, *values, **named):
    """The class of the error that a call raises, None if it raises none."""
    error = raised_error(call, *values, **named)
    return None if error is None else error.__class__


def raised_error(call, *values, **named):
    """The error that a call raises, None if it raises none."""
    try:
        call(*values, **named)
    except Exception as error:
        return error
    return None


def answer(call, values):
    """What a call returns for copies of the values."""
    return call(*deepcopy(values))


def all_moves(sliders, most_bottom):
    """All moves of so many sliders with a bottom up to this one."""
    return [
        (slider, top, bottom)
        for slider, bottom in product(range(sliders), range(2, most_bottom + 1))
        for top in range(1, bottom) if gcd(top, bottom) == 1
    ]


def all_rows(sliders, most_weight):
    """All rows of so many sliders with weights up to this one."""
    return [list(row) for row in product(range(1, most_weight + 1), repeat=sliders) if gcd(*row) == 1]


def long_moves(sliders, many, digits):
    """Some moves with numbers of so many digits, over all sliders."""
    low = 10 ** (digits - 1)
    found = []
    for at in range(many):
        bottom = low * 9 + at * at * 7 + 11
        top = bottom // (at % 5 + 2) + at
        while gcd(top, bottom) != 1:
            top += 1
        found.append(((at * at + at // 3) % sliders, top, bottom))
    return found


def shares_behind(shares, some_moves):
    """The shares behind moves, by the words of [7] alone."""
    shares = list(shares)
    for slider, top, bottom in some_moves:
        share = Fraction(top, bottom)
        factor = (1 - share) / (1 - shares[slider])
        shares = [share if at == slider else old * factor for at, old in enumerate(shares)]
    return shares


def locked_shares_behind(shares, move, locked):
    """The shares behind a move on a board with locked sliders, by the words of [22] alone."""
    slider, top, bottom = move
    still = [at for at in range(len(shares)) if at != slider and at not in locked]
    left = 1 - Fraction(top, bottom) - sum(shares[at] for at in locked)
    factor = left / sum(shares[at] for at in still)
    changed = [shares[at] * factor if at in still else shares[at] for at in range(len(shares))]
    changed[slider] = Fraction(top, bottom)
    return changed


def state_of(board):
    """All that a board shows."""
    shown = [board.shows(slider) for slider in range(len(board.row))]
    return [board.__class__, board.first_row, board.row, board.done, len(board), shown, board.described()]


def fractions_of(row):
    """The shares of a row as fractions."""
    return [Fraction(weight, sum(row)) for weight in row]


def times_table(table, row):
    """The row that a table tells, not divided by a common divisor."""
    return [sum(number * weight for number, weight in zip(numbers, row)) for numbers in table]
