import unittest
from itertools import product

from sliders.boards import Board, LockedBoard, LockedStepBoard, StepBoard
from sliders.errors import (
    EmptyHistoryError, FullError, InvalidMoveError, InvalidMovesError, LockedError, NotStartedError, StartedError,
    StepError, TooMuchError,
)
from sliders.moves import is_move
from sliders.trials import Trial, passed, row_in_trial
from support import ANY_VALUES, NOT_ITEMS, NOT_MOVES_ALONE, T, all_moves, raised_by, state_of

ROW = [1, 1, 2]
MOVE = (0, 1, 4)
MOVES = [(0, 1, 4), (1, 1, 5), (0, 1, 10), (0, 1, 10), (1, 1, 20)]


class Expected(Exception):
    """An error of the caller."""


def boards(done=()):
    """New boards of all kinds with some moves done."""
    made = [Board(ROW), LockedBoard(ROW, []), LockedBoard(ROW, [2]), StepBoard(ROW, 60), LockedStepBoard(ROW, [2], 60)]
    for board in made:
        for move in done:
            board.slide(*move)
    return made


def states_back(board):
    """The states that one undo after the other shows, down to the board at first."""
    twin = board.twin()
    states = [state_of(twin)]
    while len(twin) > 0:
        twin.undo()
        states.append(state_of(twin))
    return states


def begin_within(trial):
    with trial:
        trial.begin()


def nested(trial):
    with trial:
        with trial:
            pass


class ByHand(unittest.TestCase):
    def test_begin_gives_the_board_itself(self):
        for board in boards():
            trial = Trial(board)
            self.assertIs(trial.begin(), board)
            trial.finish()
            self.assertIs(trial.begin(), board)
            self.assertIs(Trial(board=board).begin(), board)

    def test_moves_are_reverted(self):
        for many in range(4):
            for board in boards(MOVES[:many]):
                before = states_back(board)
                trial = Trial(board)
                trial.begin()
                rows = [board.slide(*move) for move in MOVES[many:]]
                self.assertEqual([board.row, board.done], [rows[-1], MOVES])
                self.assertEqual(trial.finish(), MOVES)
                self.assertEqual(states_back(board), before)

    def test_reverted_moves_are_done_again(self):
        for board in boards(MOVES):
            before = states_back(board)
            for undone in range(1, len(MOVES) + 1):
                trial = Trial(board)
                trial.begin()
                for _ in range(undone):
                    board.undo()
                self.assertEqual(state_of(board), before[undone])
                self.assertEqual(trial.finish(), MOVES[:len(MOVES) - undone])
                self.assertEqual(states_back(board), before)
            board.undo()
            self.assertEqual(states_back(board), before[1:])

    def test_both_at_once(self):
        for board, further in zip(boards(MOVES[:2]), boards(MOVES[:3])):
            before = states_back(board)
            trial = Trial(board)
            trial.begin()
            for _ in range(2):
                board.undo()
                board.slide(1, 1, 3)
                board.slide(0, 1, 10)
                board.undo()
                board.undo()
            board.slide(1, 1, 6)
            self.assertEqual(trial.finish(), [(1, 1, 6)])
            self.assertEqual(states_back(board), before)
            board.slide(*MOVES[2])
            self.assertEqual(states_back(board), states_back(further))

    def test_back_to_the_same_number_of_moves(self):
        for board in boards(MOVES[:2]):
            before = states_back(board)
            trial = Trial(board)
            trial.begin()
            board.undo()
            board.slide(1, 1, 3)
            self.assertEqual(trial.finish(), [MOVES[0], (1, 1, 3)])
            self.assertEqual(states_back(board), before)

    def test_nothing_done(self):
        for many in range(4):
            for board in boards(MOVES[:many]):
                before = states_back(board)
                trial = Trial(board)
                trial.begin()
                self.assertEqual(trial.finish(), MOVES[:many])
                self.assertEqual(states_back(board), before)

    def test_the_finished_list_is_new(self):
        for board in boards(MOVES[:2]):
            trial = Trial(board)
            trial.begin()
            board.slide(*MOVE)
            trial.finish().clear()
            trial.begin()
            trial.finish().clear()
            self.assertEqual(board.done, MOVES[:2])

    def test_forty_moves(self):
        for many in (0, 20, 40):
            board = Board(ROW)
            for _ in range(many):
                board.slide(*MOVE)
            before = states_back(board)
            trial = Trial(board)
            trial.begin()
            for _ in range(many // 2):
                board.undo()
            while len(board) < 40:
                board.slide(1, 1, 3)
            self.assertIs(raised_by(board.slide, *MOVE), FullError)
            self.assertEqual(len(trial.finish()), 40)
            self.assertEqual(states_back(board), before)

    def test_errors_within_change_nothing(self):
        for board in boards(MOVES[:2]):
            before = states_back(board)
            trial = Trial(board)
            trial.begin()
            self.assertIs(raised_by(board.slide, 9, 1, 2), InvalidMoveError)
            board.undo()
            board.undo()
            self.assertIs(raised_by(board.undo), EmptyHistoryError)
            self.assertEqual(trial.finish(), [])
            self.assertEqual(states_back(board), before)

    def test_begun_again(self):
        for board in boards():
            trial = Trial(board)
            for many in range(3):
                before = states_back(board)
                self.assertEqual(len(board), many)
                trial.begin()
                board.slide(1, 1, 5)
                trial.finish()
                self.assertEqual(states_back(board), before)
                with trial:
                    board.slide(1, 1, 6)
                self.assertEqual(states_back(board), before)
                board.slide(*MOVES[many])

    def test_a_twin_within_goes_its_own_way(self):
        for board in boards(MOVES[:1]):
            trial = Trial(board)
            trial.begin()
            board.slide(1, 1, 5)
            twin = board.twin()
            trial.finish()
            self.assertEqual([twin.done, board.done], [MOVES[:2], MOVES[:1]])
            with Trial(board):
                twin.undo()
                twin.undo()
            self.assertEqual([twin.done, board.done], [[], MOVES[:1]])


class StartedOrNot(unittest.TestCase):
    def test_begin_twice(self):
        for board in boards(MOVES[:1]):
            trial = Trial(board)
            before = states_back(board)
            trial.begin()
            board.slide(1, 1, 5)
            for call in (trial.begin, trial.__enter__):
                self.assertIs(raised_by(call), StartedError)
                self.assertEqual(board.done, MOVES[:2])
            self.assertEqual(trial.finish(), MOVES[:2])
            self.assertEqual(states_back(board), before)

    def test_with_behind_begin(self):
        for board in boards():
            trial = Trial(board)
            trial.begin()
            board.slide(*MOVE)
            with self.assertRaises(StartedError):
                with trial:
                    board.slide(*MOVE)
            self.assertEqual(board.done, [MOVE])
            self.assertEqual(trial.finish(), [MOVE])
            self.assertEqual(board.done, [])

    def test_begin_within_with(self):
        for board in boards(MOVES[:1]):
            trial = Trial(board)
            with trial:
                board.slide(*MOVE)
                self.assertIs(raised_by(trial.begin), StartedError)
                self.assertEqual(board.done, [MOVE, MOVE])
            self.assertEqual(board.done, [MOVE])
            for call in (begin_within, nested):
                self.assertIs(raised_by(call, trial), StartedError)
                self.assertEqual(board.done, [MOVE])
            self.assertIs(raised_by(trial.finish), NotStartedError)

    def test_not_begun(self):
        for board in boards(MOVES[:1]):
            trial = Trial(board)
            for _ in range(2):
                self.assertIs(raised_by(trial.finish), NotStartedError)
                self.assertEqual(board.done, [MOVE])
            trial.begin()
            trial.finish()
            board.slide(*MOVE)
            self.assertIs(raised_by(trial.finish), NotStartedError)
            self.assertEqual(board.done, [MOVE, MOVE])
            with trial:
                pass
            self.assertIs(raised_by(trial.finish), NotStartedError)

    def test_trials_of_one_board_count_for_themselves(self):
        board = Board(ROW)
        one, other = Trial(board), Trial(board)
        one.begin()
        self.assertIs(raised_by(other.finish), NotStartedError)
        other.begin()
        other.finish()
        self.assertIs(raised_by(one.begin), StartedError)
        one.finish()


class With(unittest.TestCase):
    def test_gives_the_board(self):
        for board in boards(MOVES[:1]):
            before = states_back(board)
            with Trial(board) as held:
                self.assertIs(held, board)
                held.slide(1, 1, 5)
                self.assertEqual(board.done, MOVES[:2])
            self.assertEqual(states_back(board), before)

    def test_errors_are_raised_on(self):
        for many, error in product(range(3), (Expected, KeyError, StopIteration, KeyboardInterrupt)):
            for board in boards(MOVES[:many]):
                before = states_back(board)
                trial = Trial(board)
                told = error("words")
                try:
                    with trial:
                        board.slide(*MOVE)
                        if many > 0:
                            board.undo()
                            board.undo()
                        raise told
                except error as caught:
                    self.assertIs(caught, told)
                else:
                    self.fail("the error was not raised on")
                self.assertEqual(states_back(board), before)
                self.assertIs(raised_by(trial.finish), NotStartedError)
                self.assertIs(trial.begin(), board)

    def test_errors_of_the_package_are_raised_on(self):
        for board in boards(MOVES[:1]):
            with self.assertRaises(InvalidMoveError):
                with Trial(board):
                    board.undo()
                    board.slide(5, 1, 2)
            with self.assertRaises(EmptyHistoryError):
                with Trial(board):
                    board.undo()
                    board.undo()
            self.assertEqual(board.done, [MOVE])

    def test_left_by_return_and_break(self):
        def left(board):
            with Trial(board):
                return board.slide(*MOVE)

        board = Board(ROW)
        self.assertEqual(left(board), Board(ROW).slide(*MOVE))
        for _ in range(3):
            with Trial(board):
                board.slide(*MOVE)
                break
        self.assertEqual([board.done, board.row], [[], ROW])

    def test_trials_within_one_another(self):
        for board in boards(MOVES[:2]):
            states = [states_back(board)]
            with Trial(board):
                board.undo()
                board.slide(1, 1, 10)
                states.append(states_back(board))
                with Trial(board) as held:
                    held.undo()
                    held.undo()
                    states.append(states_back(board))
                    trial = Trial(board)
                    trial.begin()
                    held.slide(1, 1, 4)
                    self.assertEqual(trial.finish(), [(1, 1, 4)])
                    self.assertEqual(states_back(board), states[2])
                self.assertEqual(states_back(board), states[1])
                self.assertEqual(row_in_trial(board, [(0, 1, 20)]), board.tried((0, 1, 20)))
                self.assertEqual(states_back(board), states[1])
            self.assertEqual(states_back(board), states[0])

    def test_an_error_through_several_trials(self):
        for board in boards(MOVES[:2]):
            before = states_back(board)
            with self.assertRaises(Expected):
                with Trial(board):
                    board.undo()
                    with Trial(board):
                        board.undo()
                        raise Expected
            self.assertEqual(states_back(board), before)


class RowInTrial(unittest.TestCase):
    def test_rows(self):
        for done in range(len(MOVES)):
            for board in boards(MOVES[:done]):
                before = states_back(board)
                for many in range(len(MOVES)):
                    self.assertEqual(row_in_trial(board, MOVES[:many]), board.tried(*MOVES[:many]))
                    self.assertEqual(states_back(board), before)

    def test_by_name(self):
        self.assertEqual(row_in_trial(moves=T, board=Board([1, 1, 1])), [4, 3, 2])
        self.assertEqual(passed(moves=T, board=Board([1, 1, 1])), 2)

    def test_numbers_of_items(self):
        for board in boards():
            self.assertEqual(row_in_trial(board, []), ROW)
            self.assertEqual(row_in_trial(board, [MOVE] * 40), board.tried(MOVE))
            for item in (MOVE, None, (9, 9, 9)):
                self.assertIs(raised_by(row_in_trial, board, [item] * 41), InvalidMovesError)
                self.assertIs(raised_by(row_in_trial, board, [item] * 400), InvalidMovesError)
            self.assertEqual([board.row, board.done], [ROW, []])

    def test_no_list(self):
        for board in boards(MOVES[:2]):
            before = states_back(board)
            for value in NOT_ITEMS + [value for value in ANY_VALUES if type(value) is not list]:
                self.assertIs(raised_by(row_in_trial, board, value), InvalidMovesError)
            self.assertEqual(states_back(board), before)

    def test_items_of_any_kind(self):
        for board in boards(MOVES[:2]):
            before = states_back(board)
            for value in NOT_MOVES_ALONE + ANY_VALUES + [list(MOVE), [MOVE], (3, 1, 5), MOVE + (1,)]:
                if is_move(value) and value[0] < 3:
                    continue
                for moves in ([value], [MOVE, value], [MOVE, value, MOVE], [value, None]):
                    self.assertIs(raised_by(row_in_trial, board, moves), InvalidMoveError)
            self.assertEqual(states_back(board), before)

    def test_each_error(self):
        for many in range(3):
            board = LockedStepBoard(ROW, [2], 60)
            board.slide(*MOVE)
            before = states_back(board)
            for move, error in (
                ((0, 2, 4), InvalidMoveError), ((2, 1, 7), StepError), ((2, 1, 2), LockedError),
                ((0, 1, 2), TooMuchError),
            ):
                self.assertIs(raised_by(row_in_trial, board, MOVES[:many] + [move]), error)
                self.assertIs(raised_by(row_in_trial, board, MOVES[:many] + [move, None]), error)
                self.assertEqual(states_back(board), before)

    def test_full(self):
        for done in (1, 20, 40):
            for board in boards([MOVE] * done):
                before = states_back(board)
                room = 40 - done
                self.assertEqual(row_in_trial(board, [MOVE] * room), board.row)
                self.assertIs(raised_by(row_in_trial, board, [MOVE] * (room + 1)), FullError)
                self.assertIs(raised_by(row_in_trial, board, [MOVE] * room + [None]), InvalidMoveError)
                self.assertEqual(states_back(board), before)

    def test_the_row_is_new(self):
        for board in boards():
            row_in_trial(board, []).clear()
            row_in_trial(board, [MOVE]).clear()
            self.assertEqual([board.row, board.first_row], [ROW, ROW])


class Passed(unittest.TestCase):
    def test_all_moves(self):
        for done in range(3):
            for board in boards(MOVES[:done]):
                before = states_back(board)
                for many in range(len(MOVES) + 1):
                    self.assertEqual(passed(board, MOVES[:many]), many)
                self.assertEqual(passed(board, [MOVE] * (40 - done)), 40 - done)
                self.assertEqual(states_back(board), before)

    def test_numbers_of_items(self):
        for board in boards():
            self.assertEqual(passed(board, []), 0)
            self.assertEqual(passed(board, [MOVE] * 40), 40)
            self.assertEqual(passed(board, [None] * 40), 0)
            for item in (MOVE, None, (9, 9, 9)):
                self.assertIs(raised_by(passed, board, [item] * 41), InvalidMovesError)
                self.assertIs(raised_by(passed, board, [item] * 400), InvalidMovesError)

    def test_no_list(self):
        for board in boards(MOVES[:2]):
            before = states_back(board)
            for value in NOT_ITEMS + [value for value in ANY_VALUES if type(value) is not list]:
                self.assertIs(raised_by(passed, board, value), InvalidMovesError)
            self.assertEqual(states_back(board), before)

    def test_items_of_any_kind(self):
        for board in boards(MOVES[:2]):
            before = states_back(board)
            for value in NOT_MOVES_ALONE + ANY_VALUES + [list(MOVE), [MOVE], (3, 1, 5)]:
                if is_move(value) and value[0] < 3:
                    continue
                self.assertEqual(passed(board, [value]), 0)
                self.assertEqual(passed(board, [MOVE, (1, 1, 5), value, MOVE]), 2)
            self.assertEqual(states_back(board), before)

    def test_each_error(self):
        board = LockedStepBoard(ROW, [2], 60)
        for many in range(4):
            for wrong in ((0, 2, 4), (2, 1, 7), (0, 1, 7), (2, 1, 2), (0, 1, 2), (0, 3, 4), None):
                self.assertEqual(passed(board, MOVES[:many] + [wrong]), many)
                self.assertEqual(passed(board, MOVES[:many] + [wrong] + MOVES), many)
                self.assertEqual([board.row, board.done], [ROW, []])

    def test_full(self):
        for done in (1, 20, 39, 40):
            for board in boards([MOVE] * done):
                before = states_back(board)
                for many in range(41):
                    self.assertEqual(passed(board, [MOVE] * many), min(many, 40 - done))
                self.assertEqual(states_back(board), before)

    def test_exactly_as_many_as_slide_does(self):
        for board in boards():
            for first, second in product(all_moves(4, 5)[::2], repeat=2):
                done = 0
                with Trial(board):
                    for move in (first, second):
                        if raised_by(board.slide, *move) is not None:
                            break
                        done += 1
                self.assertEqual(passed(board, [first, second]), done)

    def test_other_errors_are_raised_on(self):
        class Odd(Board):
            def slide(self, slider, top, bottom):
                super().slide(slider, top, bottom)
                raise Expected

        for call in (passed, row_in_trial):
            board = Odd(ROW)
            self.assertIs(raised_by(call, board, [MOVE]), Expected)
            self.assertEqual([board.row, board.done], [ROW, []])


if __name__ == "__main__":
    unittest.main()
