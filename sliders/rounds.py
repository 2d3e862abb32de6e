"""Rounds: moves of different sliders, done again and again."""

from sliders.errors import InvalidNumberError, InvalidRoundError
from sliders.moves import are_there, is_moves, row_behind
from sliders.rows import check_row, common_multiple, is_whole, reduced

MOST_TIMES = 12


def after_rounds(row, moves, times):
    """Return the row behind so many equal rounds."""
    check_row(row)
    check_round(row, moves)
    if not is_whole(times) or not 0 <= times <= MOST_TIMES:
        raise InvalidNumberError("rounds are done an integer from 0 to 12 times")
    return row_behind(row, moves * times)


def is_steady(row, moves):
    """Return whether each move of the round leaves the row as it is."""
    check_row(row)
    check_round(row, moves)
    return all([row_behind(row, [move]) == row for move in moves])


def limit_of(row, moves):
    """Return the row that more and more rounds come ever nearer to, None if there is none."""
    check_row(row)
    check_round(row, moves)
    return with_shares(row, moves)


def check_round(row, moves):
    """Raise InvalidRoundError unless these moves are a round for the row."""
    if not is_moves(moves) or not are_there(moves, len(row)) or not are_round(moves, len(row)):
        raise InvalidRoundError("a round has moves of different sliders, at least one, but not of all sliders")


def are_round(moves, sliders):
    """Return whether moves of so many sliders move at least one, none of them twice, and not all."""
    return 1 <= len(moves) < sliders and len({move[0] for move in moves}) == len(moves)


def with_shares(row, moves):
    """Return the row in which the moved sliders have the shares of their moves, and all others their ratios.

    The moves are known to be a round for the row. None if their shares leave
    nothing for the others.
    """
    whole = common_multiple([bottom for _, _, bottom in moves])
    wanted = {slider: top * (whole // bottom) for slider, top, bottom in moves}
    left = whole - sum(wanted.values())
    if left <= 0:
        return None
    others = sum([weight for slider, weight in enumerate(row) if slider not in wanted])
    # Scaled by each other's sums, both kinds of weights add up to whole * others.
    return reduced([wanted[at] * others if at in wanted else weight * left for at, weight in enumerate(row)])
