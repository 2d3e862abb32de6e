"""Tables of moves, lists that do the same, and what moves forget."""

from sliders.errors import InvalidNumberError
from sliders.moves import are_there, check_moves, row_behind, weights_after
from sliders.rows import FEWEST_SLIDERS, MOST_SLIDERS, check_row, check_row_of, common_divisor, is_row, is_whole


def table_of(sliders, moves):
    """Return the table of moves for so many sliders."""
    check_sliders(sliders)
    check_moves(moves, sliders)
    columns = [unit_weights(sliders, slider) for slider in range(sliders)]
    for move in moves:
        columns = [weights_after(column, move) for column in columns]
    common = common_divisor([number for column in columns for number in column])
    return [[column[slider] // common for column in columns] for slider in range(sliders)]


def do_same(sliders, moves, other_moves):
    """Return whether two lists of moves lead each row to the same row."""
    check_sliders(sliders)
    check_moves(moves, sliders)
    check_moves(other_moves, sliders)
    if sliders == 2:
        return do_same_for_two(moves, other_moves)
    return table_of(sliders, moves) == table_of(sliders, other_moves)


def parting_row(sliders, moves, other_moves):
    """Return a row that two lists of moves lead to different rows, None if there is none."""
    check_sliders(sliders)
    check_moves(moves, sliders)
    check_moves(other_moves, sliders)
    for row in telling_rows(sliders):
        if row_behind(row, moves) != row_behind(row, other_moves):
            return row
    return None


def is_parting(moves, other_moves, value):
    """Return whether any value is a row that two lists of moves lead to different rows."""
    check_moves(moves, MOST_SLIDERS)
    check_moves(other_moves, MOST_SLIDERS)
    if not is_row(value) or not are_there(moves + other_moves, len(value)):
        return False
    return row_behind(value, moves) != row_behind(value, other_moves)


def forgotten(moves):
    """Return the slider that is moved first, None if there is no move."""
    check_moves(moves, MOST_SLIDERS)
    if len(moves) == 0:
        return None
    return moves[0][0]


def are_alike(row, other_row, moves):
    """Return whether moves lead two rows to the same row."""
    check_row(row)
    check_row_of(other_row, len(row))
    check_moves(moves, len(row))
    return row_behind(row, moves) == row_behind(other_row, moves)


def check_sliders(sliders):
    """Raise InvalidNumberError unless this is a number of sliders."""
    if not is_whole(sliders) or not FEWEST_SLIDERS <= sliders <= MOST_SLIDERS:
        raise InvalidNumberError("the number of sliders is an integer from 2 to 8")


def unit_weights(sliders, slider):
    """Return weights of which only that of one slider is not 0."""
    return [1 if at == slider else 0 for at in range(sliders)]


def do_same_for_two(moves, other_moves):
    """Return whether two lists of moves do the same for two sliders."""
    if len(moves) == 0 or len(other_moves) == 0:
        return len(moves) == len(other_moves)
    # With two sliders one move alone settles the row, so any row tells.
    return row_behind([1, 1], moves) == row_behind([1, 1], other_moves)


def telling_rows(sliders):
    """Return rows of which at least one is parting, if there is a parting row at all.

    These are sliders + 1 rows in general position: each of them is a sum of all
    others with factors other than 0. Two tables that agree on all of them, up to a
    factor for each row, therefore agree up to one factor, and do the same. This
    needs the tables to be those of moves, which send at most one direction to 0.
    With two sliders, moves lead each row to one and the same row, which is at most
    one of these three.
    """
    even = [1 for _ in range(sliders)]
    return [even] + [[2 if at == slider else 1 for at in range(sliders)] for slider in range(sliders)]
