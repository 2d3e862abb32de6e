"""Boards: rows that are moved call by call."""

from sliders.errors import (
    EmptyHistoryError, FullError, InvalidLocksError, InvalidNumberError, LockedError, StepError, TooMuchError,
)
from sliders.moves import check_move, row_behind
from sliders.rounds import with_shares
from sliders.rows import check_row, is_whole, share_of

FEWEST_FREE = 2
FEWEST_STEPS = 2
MOST_STEPS = 1000


class Board:
    """A row that is moved call by call."""

    MOST = 40

    def __init__(self, row):
        check_row(row)
        self._first = list(row)
        # The moves that are not reverted, as tuples (move, row behind it). Twins and trials
        # keep this list as it is now: it is replaced by another one, and never changed itself.
        self.history = []

    @property
    def first_row(self):
        """A new list of the weights at first."""
        return list(self._first)

    @property
    def row(self):
        """A new list of the weights now."""
        return last_row(self._first, self.history)

    @property
    def done(self):
        """A new list of the moves that are not reverted."""
        return [move for move, _ in self.history]

    def slide(self, slider, top, bottom):
        """Do a move and return the row behind it."""
        self.history = self.with_move(self.history, (slider, top, bottom))
        return self.row

    def undo(self):
        """Revert the last move that is not reverted."""
        if len(self.history) == 0:
            raise EmptyHistoryError("there is no move to revert")
        self.history = self.history[:-1]

    def tried(self, *moves):
        """Return the row behind some more moves, which are not done."""
        history = self.history
        for move in moves:
            history = self.with_move(history, move)
        return last_row(self._first, history)

    def shows(self, slider):
        """Return the share of a slider now."""
        return share_of(self.row, slider)

    def twin(self):
        """Return an independent board of the same class with the same moves."""
        other = self.unmoved(self)
        other.history = self.history
        return other

    def described(self):
        """Return a list of strings that tell what kind of board this is."""
        return [f"sliders {len(self._first)}"]

    @classmethod
    def unmoved(cls, board):
        """Return a new board of this class, which is as the other one was at first."""
        return cls(board._first)

    def with_move(self, history, move):
        """Return the history with one more move, which may be any value, or raise what bars it."""
        self.check_slide(move)
        if len(history) >= Board.MOST:
            raise FullError("40 moves are done and not reverted")
        return history + [(move, self.row_slid(last_row(self._first, history), move))]

    def check_slide(self, move):
        """Raise an error unless any value is a move that this kind of board allows."""
        check_move(move, len(self._first))

    def row_slid(self, row, move):
        """Return the row behind a move that is known to be allowed."""
        return row_behind(row, [move])

    def __len__(self):
        return len(self.history)

    def __eq__(self, other):
        if not isinstance(other, Board) or type(self) is not type(other):
            return False
        # The rows between may differ, because of other locks, and the rows now be equal all the same.
        return self._first == other._first and self.done == other.done and self.row == other.row


class LockedBoard(Board):
    """A board with locked sliders, which keep their shares."""

    def __init__(self, row, locked):
        Board.__init__(self, row)
        check_locks(locked, len(row))
        self._locked = list(locked)

    def described(self):
        """Return a list of strings that tell what kind of board this is."""
        return [f"sliders {len(self._first)}", f"locked {len(self._locked)}"]

    @classmethod
    def unmoved(cls, board):
        """Return a new board of this class, which is as the other one was at first."""
        return cls(board._first, board._locked)

    def check_slide(self, move):
        """Raise an error unless any value is a move that this kind of board allows."""
        # On a board that is stepped, too, this raises StepError, which comes first.
        super().check_slide(move)
        slider, top, bottom = move
        if slider in self._locked:
            raise LockedError("the slider is locked")
        # Locked shares stay what they were at first.
        whole = sum(self._first)
        free = whole - sum([self._first[at] for at in self._locked])
        if top * whole >= bottom * free:
            raise TooMuchError("the share leaves nothing for the sliders that are not locked")

    def row_slid(self, row, move):
        """Return the row behind a move that is known to be allowed."""
        return with_shares(row, [move] + [(at, *share_of(row, at)) for at in self._locked])


class StepBoard(Board):
    """A board on which each share stands on one of so many equal steps."""

    def __init__(self, row, steps):
        Board.__init__(self, row)
        check_steps(steps)
        self._steps = steps

    def described(self):
        """Return a list of strings that tell what kind of board this is."""
        return [f"sliders {len(self._first)}", f"steps {self._steps}"]

    @classmethod
    def unmoved(cls, board):
        """Return a new board of this class, which is as the other one was at first."""
        return cls(board._first, board._steps)

    def check_slide(self, move):
        """Raise an error unless any value is a move that this kind of board allows."""
        super().check_slide(move)
        if self._steps % move[2] != 0:
            raise StepError("the number of steps is no multiple of the bottom of the share")


class LockedStepBoard(LockedBoard, StepBoard):
    """A board with locked sliders on which each share stands on a step."""

    def __init__(self, row, locked, steps):
        LockedBoard.__init__(self, row, locked)
        StepBoard.__init__(self, row, steps)

    def described(self):
        """Return a list of strings that tell what kind of board this is."""
        return [f"sliders {len(self._first)}", f"locked {len(self._locked)}", f"steps {self._steps}"]

    @classmethod
    def unmoved(cls, board):
        """Return a new board of this class, which is as the other one was at first."""
        return cls(board._first, board._locked, board._steps)


def last_row(first, history):
    """Return a new list of the weights behind the last move of a history, those at first if it has none."""
    if len(history) == 0:
        return list(first)
    return list(history[-1][1])


def check_locks(locked, sliders):
    """Raise InvalidLocksError unless these can be the locked ones of so many sliders."""
    if not are_locks(locked, sliders):
        raise InvalidLocksError("locks are a list of different sliders, such that two or more are not locked")


def are_locks(value, sliders):
    """Return whether any value is a list of different ones of so many sliders that leaves enough of them free."""
    if type(value) is not list or not all([is_whole(slider) and 0 <= slider < sliders for slider in value]):
        return False
    return len(value) <= sliders - FEWEST_FREE and len(set(value)) == len(value)


def check_steps(steps):
    """Raise InvalidNumberError unless this is a number of steps."""
    if not is_whole(steps) or not FEWEST_STEPS <= steps <= MOST_STEPS:
        raise InvalidNumberError("the number of steps is an integer from 2 to 1000")
