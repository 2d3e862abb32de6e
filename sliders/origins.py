"""Origins: the rows from which moves lead to a row."""

from sliders.errors import InvalidMovesError, InvalidNumberError, NoOriginError
from sliders.moves import check_moves, row_behind, weights_after
from sliders.rows import check_row, is_row, is_whole, lowest_terms, reduced
from sliders.tables import forgotten


def origin_of(row, moves):
    """Return the weights in all starts, None for the forgotten slider; None if there is no start."""
    check_row(row)
    check_moves(moves, len(row))
    weights, refused = reckoned_back(row, moves)
    if refused is not None:
        return None
    slider = forgotten(moves)
    return [None if at == slider else weight for at, weight in enumerate(weights)]


def start_with(row, moves, top, bottom):
    """Return the start in which the forgotten slider has the share top / bottom."""
    check_row(row)
    check_moves(moves, len(row))
    if len(moves) == 0:
        raise InvalidMovesError("without moves there is no forgotten slider")
    check_share(top, bottom)
    weights, refused = reckoned_back(row, moves)
    if refused is not None:
        raise NoOriginError(refused)
    return reduced(weights_after(weights, (forgotten(moves), top, bottom)))


def refused_at(row, moves):
    """Return the index of the move because of which there is no start, None if there is one."""
    check_row(row)
    check_moves(moves, len(row))
    _, refused = reckoned_back(row, moves)
    return refused


def is_start(row, moves, value):
    """Return whether any value is a row from which the moves lead to the row."""
    check_row(row)
    check_moves(moves, len(row))
    return is_row(value) and len(value) == len(row) and row_behind(value, moves) == row


def check_share(top, bottom):
    """Raise InvalidNumberError unless top / bottom is a share, in lowest terms or not."""
    if not is_whole(top) or not is_whole(bottom) or not 1 <= top < bottom:
        raise InvalidNumberError("a share has an integer top from 1 on and a greater integer bottom")


def reckoned_back(row, moves):
    """Return (weights, None), or (None, index) if the move with this index leaves no start.

    The weights are those in all starts without a common divisor, with 0 for the
    forgotten slider.
    """
    if len(moves) == 0:
        return list(row), None
    last = len(moves) - 1
    unknown, top, bottom = moves[last]
    if lowest_terms(row[unknown], sum(row)) != (top, bottom):
        return None, last
    weights = reduced([0 if at == unknown else weight for at, weight in enumerate(row)])
    for index in reversed(range(last)):
        slider = moves[index][0]
        # The unknown weight may be what this move made it: that tells nothing of the rows ahead.
        if slider != unknown:
            ahead = weights_ahead(weights, unknown, moves[index])
            if ahead[unknown] <= 0:
                return None, index
            weights = reduced(ahead)
            unknown = slider
    return weights, None


def weights_ahead(weights, unknown, move):
    """Return the weights ahead of a move, with 0 for its slider.

    The weights behind it have 0 for the unknown slider. The move tells what this
    weight must be, which may be 0 or less. All weights are multiplied by top, so
    that they stay integers.
    """
    slider, top, bottom = move
    others = sum(weights) - weights[slider]
    ahead = [weight * top for weight in weights]
    ahead[unknown] = weights[slider] * (bottom - top) - others * top
    ahead[slider] = 0
    return ahead
