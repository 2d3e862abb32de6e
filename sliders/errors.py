"""The errors of the package: one class for each kind of failure."""


class SliderError(ValueError):
    """The base of all errors of the package."""


class InvalidRowError(SliderError):
    """A value is no row, or a row with another number of sliders than needed."""


class InvalidMoveError(SliderError):
    """A value is no move, or a move of a slider that is not there."""


class InvalidMovesError(SliderError):
    """A value is no list of moves, or one with a slider that is not there."""


class InvalidSliderError(SliderError):
    """A value is no slider of the row."""


class InvalidNumberError(SliderError):
    """A value is no integer, or one outside of its range."""


class InvalidSharesError(SliderError):
    """A value is no list of shares that add up to 1."""


class InvalidLogError(SliderError):
    """A value is no log."""


class InvalidRoundError(SliderError):
    """A value is no round for the row."""


class InvalidLocksError(SliderError):
    """A value is no list of sliders that can be locked together."""


class InvalidFormatError(SliderError):
    """A text is not written as a row or as moves."""


class NotShortestError(SliderError):
    """Some moves are no plan: fewer moves lead to the same row."""


class LockedError(SliderError):
    """A locked slider cannot be moved."""


class TooMuchError(SliderError):
    """A share leaves nothing for the sliders that are not locked."""


class StepError(SliderError):
    """A share does not stand on a step of the board."""


class FullError(SliderError):
    """There would be more moves than there is room for."""


class EmptyHistoryError(SliderError):
    """There is no move to revert."""


class StartedError(SliderError):
    """A trial has begun already."""


class NotStartedError(SliderError):
    """A trial has not begun."""


class NoMoveError(SliderError):
    """No single move leads to the row with this index from the one ahead."""

    def __init__(self, index):
        super().__init__("no single move leads to this row")
        self.index = index


class NoOriginError(SliderError):
    """A row has no start, because of the move with this index."""

    def __init__(self, index):
        super().__init__("the row has no start for these moves")
        self.index = index
