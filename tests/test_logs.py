import unittest
from itertools import product

from sliders.errors import InvalidLogError, InvalidMovesError, InvalidRowError, NoMoveError
from sliders.logs import fewest_in, is_log, log_of, moves_of
from sliders.moves import row_after, walk_rows
from sliders.plans import fewest_moves
from sliders.rows import is_row
from support import A, ANY_VALUES, BIG, BIGGER, NOT_LOGS, T, all_moves, all_rows, long_moves, raised_by, raised_error

LOG = [[1, 1, 1], [2, 1, 1], [4, 3, 2]]
TWO = [[1, 2], [2, 1]]


def changing(row, moves):
    """The moves without those that leave the row as it is when they are done."""
    walk = list(walk_rows(row, moves))
    return [move for move, ahead, behind in zip(moves, walk, walk[1:]) if ahead != behind]


class IsLog(unittest.TestCase):
    def test_logs(self):
        for many in (1, 2, 40, 41):
            for row in (A, [4, 3, 2], [BIG, BIGGER, 1], [1] * 8, [8, 7, 6, 5, 4, 3, 2, 1]):
                self.assertIs(is_log([row] * many), True)
        self.assertIs(is_log(LOG), True)
        self.assertIs(is_log([[1, 1, 1], [5, 7, 9]]), True)

    def test_number_of_rows(self):
        for many in range(45):
            self.assertIs(is_log([A] * many), 1 <= many <= 41)

    def test_number_of_sliders(self):
        for sliders, others in product(range(1, 10), repeat=2):
            expected = sliders == others and 3 <= sliders <= 8
            self.assertIs(is_log([[1] * sliders, [1] * others]), expected)
            self.assertIs(is_log([[1] * sliders] * 40 + [[1] * others]), expected)

    def test_any_other_value(self):
        for value in NOT_LOGS:
            self.assertIs(is_log(value), False, value)
        for value in ANY_VALUES:
            expected = type(value) is list and all(is_row(row) for row in value) and value == [A]
            self.assertIs(is_log(value), expected, value)


class MovesOf(unittest.TestCase):
    def test_gives_the_moves_back(self):
        for row in (A, [4, 3, 2], [1, 2, 3, 4]):
            for many in range(3):
                for part in product(all_moves(len(row), 3), repeat=many):
                    moves = list(part)
                    walk = log_of(row, moves)
                    expected = [
                        None if ahead == behind else move for move, ahead, behind in zip(moves, walk, walk[1:])
                    ]
                    self.assertEqual(moves_of(walk), expected)
                    once = changing(row, moves)
                    self.assertEqual(moves_of(log_of(row, once)), once)

    def test_forty_moves(self):
        for sliders in range(3, 9):
            moves = long_moves(sliders, 40, 31)
            row = list(range(1, sliders + 1))
            self.assertEqual(changing(row, moves), moves)
            self.assertEqual(len(log_of(row, moves)), 41)
            self.assertEqual(moves_of(log_of(row, moves)), moves)

    def test_one_row(self):
        self.assertEqual(moves_of([A]), [])
        self.assertEqual(moves_of([[8, 7, 6, 5, 4, 3, 2, 1]]), [])

    def test_equal_rows(self):
        self.assertEqual(moves_of([A] * 41), [None] * 40)
        self.assertEqual(moves_of([A, A, [2, 1, 1], [2, 1, 1], [4, 3, 2]]), [None, (0, 1, 2), None, (1, 1, 3)])

    def test_a_move_exactly_if_one_leads_there(self):
        for row, other_row in product(all_rows(3, 3), repeat=2):
            led = [
                slider for slider in range(3)
                if row_after(row, [(slider, 1, 7)]) == row_after(other_row, [(slider, 1, 7)])
            ]
            if row == other_row:
                self.assertEqual(moves_of([row, other_row]), [None])
            elif led:
                move = moves_of([row, other_row])[0]
                self.assertEqual(row_after(row, [move]), other_row)
                self.assertEqual(move[0], led[0])
            else:
                self.assertEqual(raised_error(moves_of, [row, other_row]).index, 1)

    def test_index_of_the_first_row_to_which_no_move_leads(self):
        for many in range(1, 41):
            log = [A] * many + [[4, 3, 2]]
            self.assertIs(raised_by(moves_of, log), NoMoveError)
            self.assertEqual(raised_error(moves_of, log).index, many)
            log = log + [[2, 3, 4], A]
            self.assertEqual(raised_error(moves_of, log[:41]).index, many)
        self.assertEqual(raised_error(moves_of, LOG + [[2, 3, 4]]).index, 3)
        self.assertEqual(raised_error(moves_of, LOG + [[4, 3, 2], [2, 3, 4], A]).index, 4)
        self.assertEqual(raised_error(moves_of, [[1, 1, 1, 1], [1, 1, 2, 2]]).index, 1)

    def test_a_wrong_log_ahead_of_no_move(self):
        for wrong in ([2, 4, 2], [1, 1], None, [1, 1, 1, 1], [1, True, 1]):
            for log in ([A, [4, 3, 2], wrong], [wrong, A, [4, 3, 2]]):
                self.assertIs(raised_by(moves_of, log), InvalidLogError)
                self.assertIs(raised_by(fewest_in, log), InvalidLogError)
        self.assertIs(raised_by(moves_of, [A, [4, 3, 2]] * 21), InvalidLogError)

    def test_two_sliders(self):
        for log in (TWO, TWO[:1], TWO[:1] * 2):
            self.assertIs(is_log(log), False)
            self.assertIs(raised_by(moves_of, log), InvalidLogError)
            self.assertIs(raised_by(fewest_in, log), InvalidLogError)


class FewestIn(unittest.TestCase):
    def test_sum_of_the_fewest_moves(self):
        for log in product(all_rows(3, 2), repeat=3):
            expected = fewest_moves(log[0], log[1]) + fewest_moves(log[1], log[2])
            self.assertEqual(fewest_in(list(log)), expected)
        self.assertEqual(fewest_in([A, [4, 3, 2], [2, 3, 4], [2, 3, 4], A]), 2 + 2 + 0 + 2)
        self.assertEqual(fewest_in([[1] * 8, [8, 7, 6, 5, 4, 3, 2, 1]] * 20), 7 * 39)

    def test_equal_rows_and_one_row(self):
        self.assertEqual([fewest_in([A]), fewest_in([A] * 41), fewest_in([A, A])], [0, 0, 0])

    def test_the_log_of_moves_that_all_change_the_row(self):
        for sliders in range(3, 9):
            for many in (0, 1, 39, 40):
                log = log_of(list(range(1, sliders + 1)), long_moves(sliders, many, 31))
                self.assertEqual(fewest_in(log), many)


class LogOf(unittest.TestCase):
    def test_rows_at_first_and_behind_each_move(self):
        for sliders in range(3, 9):
            row = list(range(1, sliders + 1))
            for many in (0, 1, 2, 39, 40):
                moves = long_moves(sliders, many, 2)
                log = log_of(row, moves)
                self.assertEqual(log, [row_after(row, moves[:at]) for at in range(many + 1)])
                self.assertIs(is_log(log), True)
        self.assertEqual(log_of(A, T), LOG)
        self.assertEqual(log_of(A, []), [A])

    def test_two_sliders_behind_the_errors_of_the_parameters(self):
        for moves in ([], [(0, 1, 2)], long_moves(2, 40, 31)):
            self.assertIs(raised_by(log_of, [1, 2], moves), InvalidLogError)
            self.assertIs(raised_by(log_of, [2, 4], moves), InvalidRowError)
        for moves in (None, [(2, 1, 2)], [(0, 2, 4)], [(0, 1, 2)] * 41, tuple(T)):
            self.assertIs(raised_by(log_of, [1, 2], moves), InvalidMovesError)
            self.assertIs(raised_by(log_of, [2, 4], moves), InvalidRowError)

    def test_changed_rows_change_no_other_row(self):
        log = log_of([2, 1, 1], [(0, 1, 2)] * 3)
        log[1].clear()
        self.assertEqual(log, [[2, 1, 1], [], [2, 1, 1], [2, 1, 1]])


if __name__ == "__main__":
    unittest.main()
