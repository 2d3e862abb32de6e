"""What locked and stepped boards add to plain ones: [22]."""

import unittest
from fractions import Fraction
from itertools import combinations, permutations, product
from math import gcd

from sliders.boards import Board, LockedBoard, LockedStepBoard, StepBoard
from sliders.errors import (
    FullError, InvalidLocksError, InvalidMoveError, InvalidNumberError, InvalidRowError, LockedError, StepError,
    TooMuchError,
)
from sliders.rows import reduced
from support import (
    BIG, BIGGER, NOT_INTEGERS, NOT_LOCKS_OF_FOUR, NOT_MOVES_ALONE, NOT_ROWS, NOT_STEPS, all_moves, all_rows,
    fractions_of, locked_shares_behind, long_moves, raised_by, state_of,
)

ROW = [4, 3, 2, 1]


def all_locks(sliders):
    """All lists of sliders that can be locked, in order."""
    return [list(part) for many in range(sliders - 1) for part in combinations(range(sliders), many)]


def share_left(row, locked):
    """1 minus all locked shares."""
    return 1 - Fraction(sum(row[at] for at in locked), sum(row))


def full(board):
    for at in range(40):
        board.slide(at % 2, 1, 4)
    return board


class Locks(unittest.TestCase):
    def test_all_but_two_can_be_locked(self):
        for sliders in range(2, 9):
            row = list(range(1, sliders + 1))
            for many in range(sliders + 1):
                for locked in list(combinations(range(sliders), many))[::3]:
                    expected = None if many <= sliders - 2 else InvalidLocksError
                    self.assertIs(raised_by(LockedBoard, row, list(locked)), expected)
                    self.assertIs(raised_by(LockedStepBoard, row, list(locked), 10), expected)
                    self.assertIs(raised_by(LockedBoard, row, list(locked)[::-1]), expected)

    def test_sliders_that_are_not_there(self):
        for sliders in range(3, 9):
            row = list(range(1, sliders + 1))
            for slider in range(-9, 12):
                expected = None if 0 <= slider < sliders else InvalidLocksError
                self.assertIs(raised_by(LockedBoard, row, [slider]), expected)
                self.assertIs(raised_by(LockedStepBoard, row, [slider], 10), expected)
        self.assertIs(raised_by(LockedBoard, [1, 2], [0]), InvalidLocksError)

    def test_a_slider_twice(self):
        for locked in ([0, 0], [1, 2, 1], [7, 7], [3, 3, 3, 3]):
            self.assertIs(raised_by(LockedBoard, [1] * 8, locked), InvalidLocksError)
            self.assertIs(raised_by(LockedStepBoard, [1] * 8, locked, 10), InvalidLocksError)

    def test_any_other_value(self):
        for locked in NOT_LOCKS_OF_FOUR:
            self.assertIs(raised_by(LockedBoard, ROW, locked), InvalidLocksError)
            self.assertIs(raised_by(LockedStepBoard, ROW, locked, 10), InvalidLocksError)
        for value in NOT_INTEGERS + [-1, 4, BIG]:
            if value != [1] and not (type(value) is int and value == 1):
                self.assertIs(raised_by(LockedBoard, ROW, [value]), InvalidLocksError)
                self.assertIs(raised_by(LockedBoard, ROW, [2, value]), InvalidLocksError)

    def test_order_of_locks_is_of_no_account(self):
        for locked in permutations([0, 2, 3]):
            board = LockedBoard([5, 4, 3, 2, 1], list(locked))
            self.assertEqual(board.slide(1, 1, 5), LockedBoard([5, 4, 3, 2, 1], [0, 2, 3]).slide(1, 1, 5))


class OrderOfArguments(unittest.TestCase):
    def test_wrong_arguments(self):
        good = (ROW, [2], 10)
        rows, locks, steps = NOT_ROWS[::6] + [ROW], NOT_LOCKS_OF_FOUR[::4] + [[2]], NOT_STEPS[::4] + [10]
        for values in product(rows, locks, steps):
            errors = [InvalidRowError, InvalidLocksError, InvalidNumberError]
            raised = [error for error, value, fine in zip(errors, values, good) if repr(value) != repr(fine)]
            row, locked, step = values
            self.assertIs(raised_by(LockedStepBoard, *values), raised[0] if raised else None)
            raised = [error for error in raised if error is not InvalidNumberError]
            self.assertIs(raised_by(LockedBoard, row, locked), raised[0] if raised else None)
            raised = [InvalidRowError] if row is not ROW else [InvalidNumberError] if step != 10 else [None]
            self.assertIs(raised_by(StepBoard, row, step), raised[0])

    def test_a_wrong_row(self):
        for row in NOT_ROWS:
            for make, more in ((Board, ()), (LockedBoard, ([],)), (StepBoard, (2,)), (LockedStepBoard, ([], 2))):
                self.assertIs(raised_by(make, row, *more), InvalidRowError)
                self.assertIs(raised_by(make, row, *[None for _ in more]), InvalidRowError)

    def test_by_name(self):
        board = LockedStepBoard(steps=12, locked=[3], row=ROW)
        self.assertEqual(state_of(board), state_of(LockedStepBoard(ROW, [3], 12)))
        self.assertEqual(LockedBoard(locked=[1], row=ROW).described(), ["sliders 4", "locked 1"])
        self.assertEqual(StepBoard(steps=7, row=ROW).described(), ["sliders 4", "steps 7"])
        self.assertEqual(Board(row=ROW).described(), ["sliders 4"])


class LockedSlides(unittest.TestCase):
    def test_by_the_words_of_the_document(self):
        found = {None: 0, LockedError: 0, TooMuchError: 0}
        for row in all_rows(3, 3)[::2] + all_rows(4, 2)[::3] + [[5, 4, 3, 2, 1]]:
            for locked, move in product(all_locks(len(row)), all_moves(len(row), 5)):
                for board in (LockedBoard(row, locked), LockedStepBoard(row, locked, 60)):
                    expected = None
                    if move[0] in locked:
                        expected = LockedError
                    elif Fraction(move[1], move[2]) >= share_left(row, locked):
                        expected = TooMuchError
                    found[expected] += 1
                    self.assertIs(raised_by(board.tried, move), expected)
                    if expected is not None:
                        self.assertIs(raised_by(board.slide, *move), expected)
                        self.assertEqual([board.row, board.done], [row, []])
                        continue
                    behind = board.slide(*move)
                    self.assertEqual(fractions_of(behind), locked_shares_behind(fractions_of(row), move, locked))
                    self.assertEqual([board.row, reduced(behind)], [behind, behind])
        self.assertGreater(min(found.values()), 100)

    def test_move_after_move(self):
        for locked in all_locks(4):
            board = LockedBoard(ROW, locked)
            shares = fractions_of(ROW)
            for slider, top, bottom in long_moves(4, 40, 31):
                move = (slider, top, bottom * 97)
                if slider in locked or gcd(top, 97) != 1:
                    continue
                shares = locked_shares_behind(shares, move, locked)
                self.assertEqual(fractions_of(board.slide(*move)), shares)
                for at in locked:
                    self.assertEqual(board.shows(at), Board(ROW).shows(at))
            self.assertGreater(len(board), 10)

    def test_a_share_about_the_free_part(self):
        rows = [[1, 1, 2], [4, 3, 2, 1], [9, 5, 3, 2, 2, 1, 1, 1], [BIG, BIGGER, 10 ** 30, 7]]
        for row in rows:
            for locked in all_locks(len(row))[1::3]:
                left = share_left(row, locked)
                for many in (100, 10 ** 9, 10 ** 20):
                    near = Fraction(1, left.denominator * many)
                    for slider in range(len(row)):
                        if slider in locked:
                            continue
                        board = LockedBoard(row, locked)
                        for share in (left, left + near):
                            move = (slider, share.numerator, share.denominator)
                            self.assertIs(raised_by(board.slide, *move), TooMuchError)
                            self.assertIs(raised_by(board.tried, move), TooMuchError)
                        self.assertEqual([board.row, len(board)], [row, 0])
                        share = left - near
                        move = (slider, share.numerator, share.denominator)
                        behind = fractions_of(board.slide(*move))
                        self.assertEqual(behind, locked_shares_behind(fractions_of(row), move, locked))

    def test_the_free_part_stays_the_same(self):
        board = LockedBoard([1, 1, 2], [2])
        for top, bottom in ((1, 3), (1, 100), (49, 100), (1, 4)):
            board.slide(0, top, bottom)
            self.assertIs(raised_by(board.slide, 1, 1, 2), TooMuchError)
            self.assertIs(raised_by(board.slide, 0, 1, 2), TooMuchError)
            self.assertIsNone(raised_by(board.tried, (1, 499, 1000)))

    def test_a_locked_slider_ahead_of_too_much(self):
        board = LockedBoard([1, 1, 2], [2])
        for top, bottom in ((1, 3), (1, 2), (2, 3), (99, 100)):
            self.assertIs(raised_by(board.slide, 2, top, bottom), LockedError)
            self.assertIs(raised_by(board.tried, (0, 1, 3), (2, top, bottom)), LockedError)

    def test_without_locks_no_share_is_too_much(self):
        for row in ([1, 2], [4, 3, 2, 1]):
            for move in ((0, BIGGER - 1, BIGGER), (1, 1, BIGGER), (1, BIG - 1, BIG)):
                self.assertEqual(LockedBoard(row, []).slide(*move), Board(row).slide(*move))


class Steps(unittest.TestCase):
    def test_numbers_of_steps(self):
        for steps in range(-2, 1003):
            expected = None if 2 <= steps <= 1000 else InvalidNumberError
            self.assertIs(raised_by(StepBoard, ROW, steps), expected)
            self.assertIs(raised_by(LockedStepBoard, ROW, [1], steps), expected)
        for steps in NOT_STEPS:
            self.assertIs(raised_by(StepBoard, ROW, steps), InvalidNumberError)
            self.assertIs(raised_by(LockedStepBoard, ROW, [1], steps), InvalidNumberError)

    def test_only_bottoms_that_divide_the_steps(self):
        for steps in (2, 3, 7, 10, 12, 60, 100, 997, 999, 1000):
            board, locked = StepBoard([1, 1, 1], steps), LockedStepBoard([1, 1, 1], [], steps)
            for bottom in list(range(2, 70)) + [steps, steps * 2, steps + 1, steps * BIG]:
                expected = None if bottom <= steps and bottom * (steps // bottom) == steps else StepError
                for one in (board, locked):
                    self.assertIs(raised_by(one.tried, (2, 1, bottom)), expected)
                    self.assertIs(raised_by(one.tried, (0, bottom - 1, bottom)), expected)

    def test_step_after_step(self):
        board, plain = StepBoard(ROW, 100), Board(ROW)
        for move in [(0, 1, 2), (1, 33, 100), (2, 19, 20), (3, 1, 25), (0, 99, 100)]:
            self.assertEqual(board.slide(*move), plain.slide(*move))
        before = state_of(board)
        for move in ((0, 1, 3), (1, 1, 200), (2, 1, 40), (3, 1, 1000)):
            self.assertIs(raised_by(board.slide, *move), StepError)
        self.assertEqual(state_of(board), before)

    def test_twins_have_the_locks_and_steps(self):
        for board in (LockedStepBoard(ROW, [0], 10), LockedStepBoard(ROW, [0], 10).twin().twin()):
            board.slide(1, 1, 5)
            twin = board.twin()
            self.assertEqual(twin.described(), ["sliders 4", "locked 1", "steps 10"])
            self.assertIs(raised_by(twin.slide, 1, 1, 3), StepError)
            self.assertIs(raised_by(twin.slide, 0, 1, 2), LockedError)
            self.assertIs(raised_by(twin.slide, 1, 3, 5), TooMuchError)
            self.assertEqual(twin.slide(2, 1, 10), board.slide(2, 1, 10))
        self.assertIs(raised_by(StepBoard(ROW, 10).twin().slide, 1, 1, 3), StepError)
        self.assertIs(raised_by(LockedBoard(ROW, [0]).twin().slide, 0, 1, 3), LockedError)


class OrderOfErrors(unittest.TestCase):
    def check(self, board, move, error):
        before = state_of(board)
        self.assertIs(raised_by(board.slide, *move), error)
        self.assertIs(raised_by(board.tried, move), error)
        self.assertEqual(state_of(board), before)

    def test_on_a_locked_step_board(self):
        # Each move gives cause for several errors at once: the one that comes first is raised.
        cases = [
            ((2, 6, 9), InvalidMoveError), ((2, True, 3), InvalidMoveError), ((3, 2, 3), InvalidMoveError),
            ((2, 2, 3), StepError), ((2, 1, 3), StepError), ((0, 2, 3), StepError), ((0, 1, 3), StepError),
            ((2, 1, 2), LockedError), ((2, 9, 10), LockedError), ((2, 1, 10), LockedError),
            ((0, 1, 2), TooMuchError), ((1, 9, 10), TooMuchError),
        ]
        for board in (LockedStepBoard([1, 1, 2], [2], 20), full(LockedStepBoard([1, 1, 2], [2], 20))):
            for move, error in cases:
                self.check(board, move, error)
        self.check(full(LockedStepBoard([1, 1, 2], [2], 20)), (0, 2, 5), FullError)

    def test_on_a_locked_board(self):
        board = full(LockedBoard([1, 1, 2], [2]))
        for move, error in (
            ((2, 2, 4), InvalidMoveError), ((2, 1, 2), LockedError), ((0, 1, 2), TooMuchError), ((0, 1, 3), FullError),
        ):
            self.check(board, move, error)

    def test_on_a_step_board(self):
        board = full(StepBoard([1, 1, 2], 20))
        for move, error in (((2, 2, 4), InvalidMoveError), ((2, 1, 3), StepError), ((0, 1, 2), FullError)):
            self.check(board, move, error)

    def test_of_several_tried_moves_the_first_one_that_raises_counts(self):
        wrong = [
            ((0, 2, 4), InvalidMoveError), ((2, 1, 3), StepError), ((2, 1, 2), LockedError), ((0, 1, 2), TooMuchError),
        ]
        for many in range(3):
            for (one, error), (other, _) in product(wrong, repeat=2):
                board = LockedStepBoard([1, 1, 2], [2], 20)
                moves = [(0, 1, 4), (1, 1, 5)][:many]
                self.assertIs(raised_by(board.tried, *moves, one, other), error)
                self.assertIs(raised_by(board.tried, *moves, one, (0, 1, 5), other), error)
                self.assertEqual([board.row, board.done], [[1, 1, 2], []])

    def test_wrong_moves_of_all_kinds(self):
        board = LockedStepBoard(ROW, [2], 20)
        for move in NOT_MOVES_ALONE:
            self.assertIs(raised_by(board.tried, move), InvalidMoveError)


if __name__ == "__main__":
    unittest.main()
