"""Trials: moves on a board that are reverted at the end."""

from sliders.errors import InvalidMoveError, InvalidMovesError, NotStartedError, SliderError, StartedError
from sliders.moves import MOST_MOVES, is_move


class Trial:
    """A context object at whose end the board is as it was at its beginning."""

    def __init__(self, board):
        self._board = board
        # The history of the board at the beginning, None while the trial has not begun.
        self._before = None

    def begin(self):
        """Begin the trial and return the board itself."""
        if self._before is not None:
            raise StartedError("the trial has begun already")
        self._before = self._board.history
        return self._board

    def finish(self):
        """End the trial and return the moves that were done on the board until then."""
        if self._before is None:
            raise NotStartedError("the trial has not begun")
        done = self._board.done
        self.revert()
        return done

    # Also done behind an error: so this only assigns, and can raise none itself.
    def revert(self):
        board = self._board
        board.history = self._before
        self._before = None

    def __enter__(self):
        return self.begin()

    def __exit__(self, kind, value, trace):
        self.revert()


def row_in_trial(board, moves):
    """Return the row behind moves that are done on the board and then reverted."""
    check_items(moves)
    with Trial(board) as held:
        for move in moves:
            slide_any(held, move)
        return held.row


def passed(board, moves):
    """Return how many of the moves can be done one after the other on the board, until one raises an error."""
    check_items(moves)
    with Trial(board) as held:
        for index, move in enumerate(moves):
            try:
                slide_any(held, move)
            except SliderError:
                return index
    return len(moves)


def check_items(moves):
    """Raise InvalidMovesError unless this is a list of at most 40 items, of any values."""
    if type(moves) is not list or len(moves) > MOST_MOVES:
        raise InvalidMovesError("moves to try are a list of at most 40 items")


def slide_any(board, move):
    """Do a move on the board, which may be any value."""
    if not is_move(move):
        raise InvalidMoveError("a move is a tuple (slider, top, bottom) in lowest terms")
    slider, top, bottom = move
    board.slide(slider, top, bottom)
