"""Logs: lists of shown rows, and the moves between them."""

from sliders.errors import InvalidLogError, NoMoveError
from sliders.moves import check_moves, walk_rows
from sliders.plans import fewest_moves, nth_plan
from sliders.rows import check_row, is_row

FEWEST_SLIDERS_SHOWN = 3
MOST_ROWS = 41


def is_log(value):
    """Return whether any value is a log."""
    if not is_list_of_rows(value) or not 1 <= len(value) <= MOST_ROWS:
        return False
    sliders = len(value[0])
    return sliders >= FEWEST_SLIDERS_SHOWN and all([len(row) == sliders for row in value])


def moves_of(log):
    """Return the move to each row but the first one, None for a row that equals the one ahead of it."""
    check_log(log)
    return [move_to(log, index) for index in range(1, len(log))]


def fewest_in(log):
    """Return the sum of the fewest moves from each row to the next one."""
    check_log(log)
    return sum([fewest_moves(log[index - 1], log[index]) for index in range(1, len(log))])


def log_of(row, moves):
    """Return the log of the rows at first and behind each move."""
    check_row(row)
    check_moves(moves, len(row))
    if len(row) < FEWEST_SLIDERS_SHOWN:
        raise InvalidLogError("a log shows three or more sliders")
    return list(walk_rows(row, moves))


def is_list_of_rows(value):
    """Return whether any value is a list of rows, however many."""
    return type(value) is list and all([is_row(row) for row in value])


def check_log(log):
    """Raise InvalidLogError unless this is a log."""
    if not is_log(log):
        raise InvalidLogError("a log is a list of 1 to 41 rows with equally many sliders, three or more")


def move_to(log, index):
    """Return the move to the row with this index, None if it equals the row ahead of it."""
    row, other_row = log[index - 1], log[index]
    fewest = fewest_moves(row, other_row)
    if fewest == 0:
        return None
    if fewest > 1:
        raise NoMoveError(index)
    # With three or more sliders, a plan with one move is the only one.
    return nth_plan(row, other_row, 0)[0]
