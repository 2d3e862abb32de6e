"""Lists of moves as objects."""

from sliders.errors import FullError, InvalidMovesError, InvalidNumberError
from sliders.moves import check_moves, is_move, row_behind
from sliders.origins import origin_of
from sliders.rows import check_row_of, is_whole
from sliders.tables import check_sliders, do_same, table_of


class MoveList:
    """A list of moves for some sliders, which never changes."""

    MOST = 40

    def __init__(self, sliders, *moves):
        check_sliders(sliders)
        stored = list(moves)
        check_moves(stored, sliders)
        self._sliders = sliders
        self._moves = stored

    @property
    def sliders(self):
        """The number of sliders."""
        return self._sliders

    @property
    def moves(self):
        """A new list of the moves."""
        return list(self._moves)

    @property
    def table(self):
        """The table of the moves."""
        return table_of(self._sliders, self._moves)

    def back(self, row):
        """Return the weights in all starts of a row, None if there is no start."""
        check_row_of(row, self._sliders)
        return origin_of(row, self._moves)

    def __call__(self, row):
        check_row_of(row, self._sliders)
        return row_behind(row, self._moves)

    def __add__(self, other):
        if not isinstance(other, MoveList) or other._sliders != self._sliders:
            raise InvalidMovesError("the other value is not a MoveList for as many sliders")
        check_room(len(self._moves) + len(other._moves))
        moves = self._moves + other._moves
        return MoveList(self._sliders, *moves)

    def __mul__(self, other):
        check_times(other)
        check_room(len(self._moves) * other)
        moves = self._moves * other
        return MoveList(self._sliders, *moves)

    def __eq__(self, other):
        if not isinstance(other, MoveList):
            return False
        return self._sliders == other._sliders and do_same(self._sliders, self._moves, other._moves)

    def __contains__(self, x):
        # A tuple with a bool equals one with an integer, but it is no move.
        return is_move(x) and x in self._moves

    def __len__(self):
        return len(self._moves)


def check_room(many):
    """Raise FullError for more moves than a MoveList may have."""
    if many > MoveList.MOST:
        raise FullError("there would be more than 40 moves")


def check_times(times):
    """Raise InvalidNumberError unless moves can be done so many times."""
    if not is_whole(times) or not 0 <= times <= MoveList.MOST:
        raise InvalidNumberError("moves are done an integer from 0 to 40 times")
