"""What all kinds of boards do: moves, undo, tries, twins, comparison."""

import unittest
from itertools import product

from sliders.boards import Board, LockedBoard, LockedStepBoard, StepBoard
from sliders.errors import EmptyHistoryError, FullError, InvalidMoveError, InvalidSliderError
from sliders.moves import row_after, walk_rows
from sliders.rows import shares_of
from support import (
    A, ANY_VALUES, BIG, BIGGER, NOT_INTEGERS, NOT_MOVES_ALONE, NOT_SLIDERS_OF_THREE, T, Odd, all_moves, fractions_of,
    long_moves, raised_by, state_of,
)

ROW = [4, 3, 2, 3]
MOVE = (0, 1, 2)
# Boards of all kinds for one row, on each of which MOVES can be done.
MOVES = [(0, 1, 2), (1, 1, 3), (2, 1, 4), (0, 1, 3), (0, 1, 3), (1, 1, 6)]
KINDS = {
    "plain": lambda: Board(ROW),
    "no locks": lambda: LockedBoard(ROW, []),
    "a lock": lambda: LockedBoard(ROW, [3]),
    "steps": lambda: StepBoard(ROW, 12),
    "no locks and steps": lambda: LockedStepBoard(ROW, [], 12),
    "a lock and steps": lambda: LockedStepBoard(ROW, [3], 12),
}


class OwnBoard(Board):
    """A subclass of somebody else, which changes nothing."""


class OwnLockedBoard(LockedBoard):
    """A subclass of somebody else, which changes nothing."""


def boards():
    """New boards of all kinds."""
    return [make() for make in KINDS.values()]


def with_moves(board, moves):
    for move in moves:
        board.slide(*move)
    return board


def full(board, many=40):
    """The board with so many moves done."""
    return with_moves(board, [((at % 2), 1, 3) for at in range(many)])


class Kinds(unittest.TestCase):
    def test_subclasses(self):
        self.assertEqual(Board.__bases__, (object,))
        self.assertEqual(LockedBoard.__bases__, (Board,))
        self.assertEqual(StepBoard.__bases__, (Board,))
        self.assertEqual(set(LockedStepBoard.__bases__), {LockedBoard, StepBoard})

    def test_most(self):
        for owner in (Board, LockedBoard, StepBoard, LockedStepBoard, *boards()):
            self.assertEqual(owner.MOST, 40)
        self.assertEqual(vars(Board)["MOST"], 40)

    def test_described(self):
        for sliders in range(2, 9):
            row = [1] * sliders
            for locks in range(sliders - 1):
                locked = list(range(sliders))[:locks]
                told = [f"sliders {sliders}", f"locked {locks}"]
                self.assertEqual(LockedBoard(row, locked).described(), told)
                self.assertEqual(LockedStepBoard(row, locked, 7).described(), told + ["steps 7"])
            self.assertEqual(Board(row).described(), [f"sliders {sliders}"])
            self.assertEqual(StepBoard(row, 1000).described(), [f"sliders {sliders}", "steps 1000"])

    def test_described_stays_the_same(self):
        for board in boards():
            told = board.described()
            board.slide(*MOVE)
            self.assertEqual(board.described(), told)
            board.described().clear()
            self.assertEqual(board.described(), told)


class NewBoards(unittest.TestCase):
    def test_properties(self):
        for board in boards():
            self.assertEqual([board.first_row, board.row, board.done, len(board)], [ROW, ROW, [], 0])

    def test_rows(self):
        for row in ([1, 2], [1] * 8, [BIG, BIGGER], [BIGGER - at for at in range(8)]):
            for board in (Board(row), LockedBoard(row, []), StepBoard(row, 2), LockedStepBoard(row, [], 2)):
                self.assertEqual([board.first_row, board.row], [row, row])

    def test_properties_cannot_be_set(self):
        for board, name in product(boards(), ("first_row", "row", "done")):
            with self.assertRaises(AttributeError):
                setattr(board, name, [1, 1, 1, 1])


class Slide(unittest.TestCase):
    def test_without_locks_the_rows_behind_the_moves(self):
        for row in ([1, 2], [1, 1, 1], [4, 3, 2]):
            for moves in product(all_moves(len(row), 4), repeat=2):
                made = [Board(row), LockedBoard(row, []), StepBoard(row, 12), LockedStepBoard(row, [], 12)]
                for board in made:
                    self.assertEqual(board.slide(*moves[0]), row_after(row, [moves[0]]))
                    self.assertEqual(board.slide(*moves[1]), row_after(row, list(moves)))
                    self.assertEqual([board.row, board.first_row], [row_after(row, list(moves)), row])
                    self.assertEqual([board.done, len(board)], [list(moves), 2])

    def test_by_name(self):
        for board in boards():
            row = board.tried((0, 1, 3))
            self.assertEqual(board.slide(bottom=3, top=1, slider=0), row)
            self.assertEqual(board.slide(0, bottom=2, top=1), board.row)

    def test_a_move_that_changes_nothing_is_done(self):
        for board in boards():
            before = board.slide(*MOVE)
            self.assertEqual(board.slide(*MOVE), before)
            self.assertEqual([board.done, len(board)], [[MOVE, MOVE], 2])
            board.undo()
            self.assertEqual([board.row, board.done], [before, [MOVE]])

    def test_forty_long_moves(self):
        for sliders in (2, 3, 8):
            row = list(range(1, sliders + 1))
            moves = long_moves(sliders, 40, 31)
            for board in (Board(row), LockedBoard(row, [])):
                self.assertEqual([board.slide(*move) for move in moves], list(walk_rows(row, moves))[1:])
                self.assertEqual(board.done, moves)

    def test_no_move(self):
        wrong = [(4, 1, 2), (7, 1, 2), (8, 1, 2), (-1, 1, 2), (0, 2, 4), (0, 3, 9), (0, 0, 1), (0, 1, 1), (0, 2, 1)]
        wrong += [(False, 1, 2), (True, 1, 2), (0, True, 2), (1, True, 3), (0, 1, True), (0, 1, False)]
        wrong += [move for move in NOT_MOVES_ALONE if type(move) is tuple and len(move) == 3]
        for at, value in product(range(3), NOT_INTEGERS + [Odd(), float("nan"), -BIG]):
            move = list(MOVE)
            move[at] = value
            wrong.append(tuple(move))
        for board in boards():
            board.slide(*MOVE)
            before = state_of(board)
            for move in wrong:
                self.assertIs(raised_by(board.slide, *move), InvalidMoveError)
            self.assertEqual(state_of(board), before)

    def test_a_slider_that_is_not_there(self):
        for sliders in range(2, 9):
            row = [1] * sliders
            for board in (Board(row), LockedBoard(row, []), StepBoard(row, 4), LockedStepBoard(row, [], 4)):
                for slider in range(10):
                    expected = None if slider < sliders else InvalidMoveError
                    self.assertIs(raised_by(board.slide, slider, 1, 4), expected)
                    self.assertIs(raised_by(board.tried, (slider, 1, 4)), expected)


class Full(unittest.TestCase):
    def test_forty_moves(self):
        for board in boards():
            full(board, 39)
            row = board.tried(MOVE)
            self.assertEqual(board.slide(*MOVE), row)
            before = state_of(board)
            self.assertEqual(len(board), 40)
            self.assertIs(raised_by(board.slide, *MOVE), FullError)
            self.assertIs(raised_by(board.slide, 0, 1, 3), FullError)
            self.assertEqual(state_of(board), before)

    def test_a_reverted_move_makes_room(self):
        for board in boards():
            full(board)
            board.undo()
            board.undo()
            for _ in range(2):
                self.assertIsNone(raised_by(board.slide, *MOVE))
            self.assertIs(raised_by(board.slide, *MOVE), FullError)
            self.assertEqual(board.done[38:], [MOVE, MOVE])

    def test_full_is_the_last_error(self):
        for board in boards():
            full(board)
            for move in NOT_MOVES_ALONE + [(4, 1, 2), (True, 1, 2)]:
                self.assertIs(raised_by(board.tried, move), InvalidMoveError)
            self.assertIs(raised_by(board.slide, 4, 1, 2), InvalidMoveError)
            self.assertIs(raised_by(board.slide, 0, 2, 4), InvalidMoveError)

    def test_tried_moves_count(self):
        for board in boards():
            for many in (20, 35, 39, 40):
                full(board, many - len(board))
                room = 40 - many
                for tries in range(max(0, room - 2), room + 1):
                    self.assertIsNone(raised_by(board.tried, *[MOVE] * tries))
                for tries in (room + 1, room + 2):
                    self.assertIs(raised_by(board.tried, *[MOVE] * tries), FullError)
                    self.assertIs(raised_by(board.tried, *[MOVE] * room, None, MOVE), InvalidMoveError)
                    self.assertIs(raised_by(board.tried, *[MOVE] * (room + 1), None), FullError)
                self.assertEqual(len(board), many)


class Undo(unittest.TestCase):
    def test_a_new_board(self):
        for board in boards():
            before = state_of(board)
            self.assertIs(raised_by(board.undo), EmptyHistoryError)
            self.assertEqual(state_of(board), before)

    def test_all_moves(self):
        for board in boards():
            states = [state_of(board)]
            for move in MOVES:
                board.slide(*move)
                states.append(state_of(board))
            for state in reversed(states):
                self.assertEqual(state_of(board), state)
                if len(board) > 0:
                    self.assertIsNone(board.undo())
            self.assertIs(raised_by(board.undo), EmptyHistoryError)
            self.assertEqual(board.slide(*MOVES[0]), states[1][2])

    def test_forty_moves(self):
        for board in boards():
            full(board)
            for left in reversed(range(40)):
                board.undo()
                self.assertEqual(state_of(board), state_of(full(board.__class__(*setting(board)), left)))
            self.assertIs(raised_by(board.undo), EmptyHistoryError)


def setting(board):
    """The arguments with which one of these boards was made."""
    locked = [3] if "locked 1" in board.described() else []
    more = [locked] if isinstance(board, LockedBoard) else []
    return [ROW] + more + ([12] if isinstance(board, StepBoard) else [])


class Tried(unittest.TestCase):
    def test_the_rows_of_slide(self):
        for make in KINDS.values():
            for done in range(len(MOVES)):
                board = with_moves(make(), MOVES[:done])
                before = state_of(board)
                for many in range(len(MOVES) - done + 1):
                    more = MOVES[done:done + many]
                    self.assertEqual(board.tried(*more), with_moves(make(), MOVES[:done] + more).row)
                    self.assertEqual(state_of(board), before)

    def test_no_move(self):
        for board in boards():
            self.assertEqual(board.tried(), ROW)
            row = board.slide(*MOVE)
            self.assertEqual(board.tried(), row)
            board.tried().clear()
            self.assertEqual(board.row, row)

    def test_any_values(self):
        for board in boards():
            board.slide(*MOVE)
            before = state_of(board)
            for value in NOT_MOVES_ALONE + ANY_VALUES + [(4, 1, 2), list(MOVE), [MOVE], T, MOVE + (1,), {MOVE: 1}]:
                if type(value) is tuple and repr(value) in [repr(move) for move in all_moves(3, 12)]:
                    continue
                self.assertIs(raised_by(board.tried, value), InvalidMoveError)
                self.assertIs(raised_by(board.tried, MOVE, value), InvalidMoveError)
                self.assertIs(raised_by(board.tried, MOVE, (1, 1, 3), value, MOVE), InvalidMoveError)
            self.assertEqual(state_of(board), before)


class Shows(unittest.TestCase):
    def test_shares(self):
        for board in boards():
            for move in MOVES:
                row = board.slide(*move)
                self.assertEqual([board.shows(slider) for slider in range(4)], shares_of(row))
                self.assertEqual(board.shows(slider=move[0]), move[1:])

    def test_no_slider(self):
        for board in boards():
            for slider in [value for value in NOT_SLIDERS_OF_THREE if value != 3 or type(value) is not int] + [4]:
                self.assertIs(raised_by(board.shows, slider), InvalidSliderError)
        for sliders in range(2, 9):
            self.assertIs(raised_by(Board([1] * sliders).shows, sliders), InvalidSliderError)
            self.assertEqual(Board([1] * sliders).shows(sliders - 1), (1, sliders))


class Twins(unittest.TestCase):
    def test_the_same(self):
        for make in KINDS.values():
            for many in range(len(MOVES) + 1):
                board = with_moves(make(), MOVES[:many])
                twin = board.twin()
                self.assertIsNot(twin, board)
                self.assertEqual(state_of(twin), state_of(board))
                self.assertIs(twin == board, True)

    def test_undo_reverts_the_same_moves(self):
        for make in KINDS.values():
            board = with_moves(make(), MOVES)
            twin = board.twin()
            before = state_of(board)
            for many in reversed(range(len(MOVES))):
                twin.undo()
                self.assertEqual(state_of(twin), state_of(with_moves(make(), MOVES[:many])))
                self.assertIs(twin == board, False)
            self.assertIs(raised_by(twin.undo), EmptyHistoryError)
            self.assertEqual(state_of(board), before)

    def test_each_goes_its_own_way(self):
        for make in KINDS.values():
            board = with_moves(make(), MOVES[:2])
            twin = board.twin()
            before = state_of(board)
            twin.slide(2, 1, 12)
            self.assertEqual(state_of(board), before)
            self.assertIs(twin == board, False)
            after = state_of(twin)
            board.undo()
            board.undo()
            board.slide(1, 1, 2)
            self.assertEqual(state_of(twin), after)
            self.assertEqual(twin.done, MOVES[:2] + [(2, 1, 12)])
            self.assertEqual(board.done, [(1, 1, 2)])

    def test_twins_of_twins(self):
        for make in KINDS.values():
            one = with_moves(make(), MOVES[:1])
            other = one.twin().twin()
            one.undo()
            self.assertEqual(state_of(other), state_of(with_moves(make(), MOVES[:1])))

    def test_full_twins(self):
        for board in boards():
            twin = full(board).twin()
            self.assertIs(raised_by(twin.slide, *MOVE), FullError)
            board.undo()
            self.assertIs(raised_by(twin.slide, *MOVE), FullError)
            self.assertIs(raised_by(board.slide, *MOVE), None)

    def test_twins_of_subclasses(self):
        for board in (OwnBoard(ROW), OwnLockedBoard(ROW, [2])):
            board.slide(*MOVE)
            self.assertIs(board.twin().__class__, board.__class__)
            self.assertEqual(state_of(board.twin()), state_of(board))


class Equality(unittest.TestCase):
    def check(self, one, other, expected):
        self.assertIs(one == other, expected)
        self.assertIs(other == one, expected)
        self.assertIs(one != other, not expected)
        self.assertIs(other != one, not expected)

    def test_the_same_moves(self):
        for make in KINDS.values():
            for many, more in product(range(len(MOVES) + 1), repeat=2):
                one, other = with_moves(make(), MOVES[:many]), with_moves(make(), MOVES[:more])
                self.check(one, other, many == more)

    def test_other_classes(self):
        made = [Board(ROW), LockedBoard(ROW, []), StepBoard(ROW, 12), LockedStepBoard(ROW, [], 12)]
        made += [OwnBoard(ROW), OwnLockedBoard(ROW, [])]
        for moves in ([], MOVES):
            for at, one in enumerate(made):
                for where, other in enumerate(made):
                    self.check(with_moves(one.twin(), moves), with_moves(other.twin(), moves), at == where)

    def test_other_rows_at_first(self):
        for one, other in (
            (Board([1, 1, 1]), Board([5, 1, 1])),
            (LockedBoard([1, 1, 1], []), LockedBoard([5, 1, 1], [])),
            (StepBoard([1, 1, 1], 2), StepBoard([5, 1, 1], 2)),
        ):
            self.check(one, other, False)
            self.assertEqual(one.slide(0, 1, 2), other.slide(0, 1, 2))
            self.assertEqual([one.row, one.done], [other.row, other.done])
            self.check(one, other, False)

    def test_other_moves_to_the_same_row(self):
        for make in KINDS.values():
            one, other = with_moves(make(), [MOVE]), with_moves(make(), [MOVE, MOVE])
            self.assertEqual(one.row, other.row)
            self.check(one, other, False)
            one, other = with_moves(make(), [(0, 1, 3), MOVE]), with_moves(make(), [(0, 1, 4), MOVE])
            self.assertEqual(one.row, other.row)
            self.check(one, other, False)
            other.undo()
            other.undo()
            self.check(one, other, False)

    def test_other_rows_now(self):
        one, other = LockedBoard(ROW, []), LockedBoard(ROW, [3])
        self.check(one, other, True)
        self.assertNotEqual(one.slide(*MOVE), other.slide(*MOVE))
        self.check(one, other, False)
        one.undo()
        self.check(one, other, False)
        other.undo()
        self.check(one, other, True)

    def test_locks_and_steps_are_not_compared(self):
        self.check(LockedBoard(ROW, [0]), LockedBoard(ROW, [2, 1]), True)
        self.check(StepBoard(ROW, 12), StepBoard(ROW, 1000), True)
        self.check(LockedStepBoard(ROW, [0], 12), LockedStepBoard(ROW, [], 2), True)
        self.check(with_moves(StepBoard(ROW, 12), [MOVE]), with_moves(StepBoard(ROW, 1000), [MOVE]), True)

    def test_rows_between_are_not_compared(self):
        one, other = LockedBoard([1, 1, 2], []), LockedBoard([1, 1, 2], [2])
        self.assertNotEqual(one.slide(0, 1, 3), other.slide(0, 1, 3))
        self.check(one, other, False)
        self.assertEqual([one.slide(1, 1, 8), other.slide(1, 1, 8)], [[3, 1, 4], [3, 1, 4]])
        self.check(one, other, True)
        self.check(LockedStepBoard([1, 1, 2], [], 24), one, False)

    def test_any_other_value(self):
        for board in boards():
            for value in ANY_VALUES + [board.row, board.first_row, board.done, 0, len(board), Board, board.__class__]:
                if not isinstance(value, Odd):
                    self.check(board, value, False)

    def test_a_value_that_equals_everything(self):
        for board in boards():
            self.assertIs(board == Odd(), False)
            self.assertIs(board != Odd(), True)

    def test_itself(self):
        for board in boards():
            self.check(board, board, True)


class Copies(unittest.TestCase):
    def test_results_that_the_caller_changes(self):
        for board in boards():
            with_moves(board, MOVES)
            before = state_of(board)
            for _ in range(2):
                changed = [board.first_row, board.row, board.done, board.described(), board.tried(), board.tried(MOVE)]
                for values in changed:
                    values.reverse()
                    values.append(7)
                    values.clear()
                self.assertEqual(state_of(board), before)
            board.undo()
            board.slide(*MOVES[-1]).clear()
            self.assertEqual(state_of(board), before)

    def test_a_new_list_each_time(self):
        for board in boards():
            for _ in range(2):
                self.assertIsNot(board.row, board.row)
                self.assertIsNot(board.first_row, board.first_row)
                self.assertIsNot(board.first_row, board.row)
                self.assertIsNot(board.done, board.done)
                board.slide(*MOVE)

    def test_arguments_that_are_changed_afterwards(self):
        row, locked = list(ROW), [3]
        made = [Board(row), LockedBoard(row, locked), StepBoard(row, 12), LockedStepBoard(row, locked, 12)]
        twins = [board.twin() for board in made]
        before = [state_of(board) for board in made]
        row[0] = 99
        row.append(5)
        locked[0] = 0
        locked.append(1)
        self.assertEqual([state_of(board) for board in made], before)
        for board in made + twins:
            self.assertIsNone(raised_by(board.slide, *MOVE))
            board.undo()
            self.assertEqual([board.row, board.first_row], [ROW, ROW])

    def test_arguments_stay_as_they_are(self):
        row, locked = list(ROW), [3]
        for board in (LockedBoard(row, locked), LockedStepBoard(row, locked, 12), Board(row)):
            full(board)
            board.undo()
            board.tried(MOVE)
            board.twin().slide(*MOVE)
            self.assertEqual([row, locked], [ROW, [3]])

    def test_calls_that_raise_leave_the_board(self):
        for board in boards():
            with_moves(board, MOVES)
            before = state_of(board)
            for call, values in (
                (board.slide, (9, 1, 2)), (board.slide, (0, 2, 4)), (board.tried, (None,)), (board.tried, (MOVE, 7)),
                (board.shows, (4,)), (board.shows, (True,)),
            ):
                self.assertIsNotNone(raised_by(call, *values))
                self.assertEqual(state_of(board), before)
            for many in reversed(range(len(MOVES))):
                board.undo()
                self.assertEqual(board.done, MOVES[:many])

    def test_boards_share_nothing(self):
        one, other = Board(A), Board(A)
        one.slide(*MOVE)
        self.assertEqual([other.row, other.done], [A, []])
        self.assertEqual(fractions_of(one.first_row), fractions_of(other.row))


if __name__ == "__main__":
    unittest.main()
