"""Moves, and the rows behind them."""

from math import gcd

from sliders.errors import InvalidMoveError, InvalidMovesError
from sliders.rows import MOST_SLIDERS, check_row, is_whole, reduced

MOST_MOVES = 40


def is_move(value):
    """Return whether any value is a move."""
    if type(value) is not tuple or len(value) != 3 or not all([is_whole(part) for part in value]):
        return False
    slider, top, bottom = value
    return 0 <= slider < MOST_SLIDERS and 1 <= top < bottom and gcd(top, bottom) == 1


def is_moves(value):
    """Return whether any value is a list of moves."""
    return type(value) is list and len(value) <= MOST_MOVES and all([is_move(move) for move in value])


def moved(row, move):
    """Return the row behind one move."""
    check_row(row)
    check_move(move, len(row))
    return row_behind(row, [move])


def row_after(row, moves):
    """Return the row behind moves."""
    check_row(row)
    check_moves(moves, len(row))
    return row_behind(row, moves)


def walk_rows(row, moves):
    """Yield the row at first and behind each move."""
    check_row(row)
    check_moves(moves, len(row))
    # The caller may change any list, yielded or passed in, before the walk goes on.
    present = list(row)
    steps = list(moves)
    yield list(present)
    for move in steps:
        present = row_behind(present, [move])
        yield list(present)


def merged(moves):
    """Return the moves without those that the next one makes needless."""
    check_moves(moves, MOST_SLIDERS)
    last = len(moves) - 1
    return [move for at, move in enumerate(moves) if at == last or moves[at + 1][0] != move[0]]


def check_move(move, sliders):
    """Raise InvalidMoveError unless this is a move of one of so many sliders."""
    if not is_move(move) or move[0] >= sliders:
        raise InvalidMoveError("a move is a tuple (slider, top, bottom) in lowest terms, of a slider that is there")


def check_moves(moves, sliders):
    """Raise InvalidMovesError unless these are moves of so many sliders."""
    if not is_moves(moves) or not are_there(moves, sliders):
        raise InvalidMovesError("moves are a list of at most 40 moves of sliders that are there")


def are_there(moves, sliders):
    """Return whether the moves name none but so many sliders."""
    return all([move[0] < sliders for move in moves])


def row_behind(row, moves):
    """Return the row behind moves that are known to fit it."""
    behind = list(row)
    for move in moves:
        behind = reduced(weights_after(behind, move))
    return behind


def weights_after(weights, move):
    """Return the weights behind one move, not yet divided by their common divisor."""
    slider, top, bottom = move
    others = sum(weights) - weights[slider]
    after = [weight * (bottom - top) for weight in weights]
    after[slider] = top * others
    return after
