import unittest
from itertools import product

from sliders.errors import InvalidMovesError, InvalidNumberError, InvalidRowError, NoOriginError
from sliders.moves import merged, row_after
from sliders.origins import is_start, origin_of, refused_at, start_with
from sliders.rows import is_row, row_with, share_of
from sliders.tables import are_alike
from support import A, ANY_VALUES, BIG, BIGGER, T, all_moves, all_rows, long_moves, raised_by, raised_error

SHARES = [(1, 2), (1, 3), (2, 3), (5, 7), (1, BIGGER), (BIG, BIG + 1)]


def some_lists(sliders):
    """All lists of one and two moves with small numbers, and some of three."""
    moves = all_moves(sliders, 3)
    found = [list(part) for many in (1, 2) for part in product(moves, repeat=many)]
    return found + [list(part) for part in product(moves[::2], repeat=3)]


def others_of(row, slider):
    """A row with None for one slider, and all others without a common divisor."""
    others = row[:slider] + row[slider + 1:]
    others = row_with(others) if len(others) > 1 else [1]
    return others[:slider] + [None] + others[slider:]


def reached_from(rows, moves):
    """For each row that moves lead to from these rows: the rows from which they do, as tuples."""
    found = {}
    for row in rows:
        found.setdefault(tuple(row_after(row, moves)), []).append(row)
    return found


class Starts(unittest.TestCase):
    def test_each_row_that_is_reached_has_its_starts(self):
        for sliders, most in ((2, 4), (3, 4), (4, 2)):
            rows = all_rows(sliders, most)
            for moves in some_lists(sliders)[::sliders]:
                for behind, starts in reached_from(rows, moves).items():
                    row, slider = list(behind), moves[0][0]
                    self.assertIsNone(refused_at(row, moves))
                    for start in starts:
                        self.assertEqual(origin_of(row, moves), others_of(start, slider))
                        self.assertEqual(start_with(row, moves, *share_of(start, slider)), start)
                    self.assertEqual([start for start in rows if is_start(row, moves, start)], starts)

    def test_each_row_with_an_origin_is_reached_and_each_other_one_is_not(self):
        for sliders, most in ((2, 4), (3, 4), (4, 2)):
            rows = all_rows(sliders, most)
            answers = set()
            for moves in some_lists(sliders)[::sliders * 2]:
                reached = reached_from(rows, moves)
                for row in rows:
                    index = refused_at(row, moves)
                    answers.add(index)
                    if index is None:
                        start = start_with(row, moves, 2, 7)
                        self.assertEqual(row_after(start, moves), row)
                        self.assertEqual(share_of(start, moves[0][0]), (2, 7))
                    else:
                        self.assertNotIn(tuple(row), reached)
                        self.assertIsNone(origin_of(row, moves))
                        error = raised_error(start_with, row, moves, 2, 7)
                        self.assertIs(error.__class__, NoOriginError)
                        self.assertEqual(error.index, index)
            self.assertEqual(answers, {None, 0, 1, 2})

    def test_refused_at_the_last_move_from_which_on_there_is_no_start(self):
        for sliders, most in ((2, 3), (3, 4), (4, 2)):
            for moves in some_lists(sliders)[::sliders * 3]:
                for row in all_rows(sliders, most):
                    refused = [at for at in range(len(moves)) if origin_of(row, moves[at:]) is None]
                    self.assertEqual(refused_at(row, moves), refused[-1] if refused else None)

    def test_starts_are_all_rows_alike_to_one(self):
        for moves in some_lists(3)[::7]:
            for row in all_rows(3, 4):
                if refused_at(row, moves) is None:
                    start = start_with(row, moves, 3, 5)
                    for value in all_rows(3, 3):
                        self.assertIs(is_start(row, moves, value), are_alike(start, value, moves))

    def test_a_share_of_the_last_move_that_is_not_shown(self):
        self.assertEqual(refused_at([4, 3, 1], T), 1)
        self.assertEqual(refused_at([4, 3, 3], T), 1)
        self.assertEqual(refused_at([1, 1, 1], [(0, 1, 2)]), 0)
        # The move ahead leaves no start either, but the last move is asked first.
        self.assertEqual(refused_at([2, 3, 5], T), 1)
        self.assertEqual(refused_at([2, 3, 4], T), 0)
        for many in (1, 2, 39, 40):
            moves = long_moves(4, many, 2)
            self.assertEqual(refused_at([1000, 1001, 1003, 1009], moves), many - 1)

    def test_large_numbers(self):
        for sliders in range(2, 9):
            row = list(range(BIG, BIG + sliders))
            for many in (1, 2, 39, 40):
                moves = long_moves(sliders, many, 31)
                behind, slider = row_after(row, moves), moves[0][0]
                self.assertIsNone(refused_at(behind, moves))
                self.assertEqual(origin_of(behind, moves), others_of(row, slider))
                self.assertEqual(start_with(behind, moves, *share_of(row, slider)), row)
                self.assertIs(is_start(behind, moves, row), True)
                other = row[:slider] + [BIGGER] + row[slider + 1:]
                self.assertIs(is_start(behind, moves, row_with(other)), True)


class NoMoves(unittest.TestCase):
    def test_origin_is_the_row_itself(self):
        for row in ([1, 1], [4, 3, 2], [8, 7, 6, 5, 4, 3, 2, 1]):
            self.assertEqual(origin_of(row, []), row)
            self.assertIsNone(refused_at(row, []))

    def test_only_the_row_is_a_start(self):
        self.assertIs(is_start([4, 3, 2], [], [4, 3, 2]), True)
        for value in ([5, 3, 2], [8, 6, 4], [4, 3], [4, 3, 2, 1], (4, 3, 2), None):
            self.assertIs(is_start([4, 3, 2], [], value), False)

    def test_start_with_needs_moves_ahead_of_numbers(self):
        for top, bottom in ((1, 2), (None, 2), (1, None), (2, 1), (True, 2)):
            self.assertIs(raised_by(start_with, [4, 3, 2], [], top, bottom), InvalidMovesError)
            self.assertIs(raised_by(start_with, [4, 2], [], top, bottom), InvalidRowError)


class ReckoningBack(unittest.TestCase):
    def test_a_weight_of_exactly_zero_and_beside_it(self):
        for other in (5, 1000, BIG):
            for weight, index in ((other - 1, 0), (other, 0), (other + 1, None)):
                # The second slider shows 1/3; the first move tells that it was weight - other.
                row = row_with([2 * weight, weight + other, 2 * other])
                self.assertEqual(refused_at(row, T), index)
                self.assertEqual(origin_of(row, T), None if index == 0 else others_of([7, 1, other], 0))
                error = raised_error(start_with, row, T, 1, 2)
                self.assertEqual(None if error is None else error.index, index)

    def test_the_index_is_that_of_the_move_that_tells_it(self):
        for ahead in range(38):
            moves = long_moves(3, ahead, 2) + T
            self.assertEqual(refused_at([2, 3, 4], moves), ahead)
            self.assertIsNone(refused_at([3, 4, 1, 4], [(0, 1, 3)] * ahead + [(1, 1, 3), (3, 1, 3)]))
            self.assertEqual(refused_at([2, 2, 2, 3], [(0, 1, 3)] * ahead + [(1, 1, 3), (3, 1, 3)]), ahead)
            self.assertEqual(refused_at([1, 1, 1, 3], moves + [(3, 1, 2)]), ahead + 1)

    def test_moves_of_one_slider_behind_one_another(self):
        a, b, c = (0, 1, 5), (0, 1, 2), (1, 1, 3)
        for moves in ([a, b, c], [b, c, c], [a, a, b, c], [a, b, (1, 4, 9), c], [b, b] + [(1, 2, 5)] * 37 + [c]):
            for row in ([4, 3, 2], [2, 3, 4], [3, 3, 3], [4, 3, 1], [10, 7, 4]):
                row = row_with(row)
                expected = origin_of(row, merged(moves))
                self.assertEqual(origin_of(row, moves), expected)
                if expected is not None:
                    self.assertEqual(start_with(row, moves, 5, 7), start_with(row, merged(moves), 5, 7))
        self.assertEqual(refused_at([2, 3, 4], [a, b, c]), 1)
        self.assertEqual(refused_at([2, 3, 4], [b, c, c]), 0)
        self.assertEqual(refused_at([2, 3, 4], [b, b, c]), 1)
        self.assertEqual(refused_at([4, 3, 1], [b, c, c]), 2)

    def test_one_move(self):
        for row in all_rows(3, 4):
            for slider in range(3):
                move = (slider, *share_of(row, slider))
                self.assertEqual(origin_of(row, [move]), others_of(row, slider))
                self.assertIsNone(refused_at(row, [move]))
        self.assertEqual(origin_of([5, 2, 4], [(0, 5, 11)]), [None, 1, 2])

    def test_a_slider_that_is_moved_again_later(self):
        moves = [(0, 1, 2), (1, 1, 3), (0, 1, 4), (2, 1, 5), (1, 3, 8)]
        for start in all_rows(3, 5):
            row = row_after(start, moves)
            self.assertEqual(origin_of(row, moves), others_of(start, 0))
            self.assertEqual(start_with(row, moves, *share_of(start, 0)), start)


class TwoSliders(unittest.TestCase):
    def test_the_last_share_alone_decides_and_every_row_is_a_start(self):
        for moves in some_lists(2) + [long_moves(2, 40, 2), long_moves(2, 40, 31)]:
            last, top, bottom = moves[-1]
            shown = [top, bottom - top] if last == 0 else [bottom - top, top]
            for row in all_rows(2, 5) + [shown]:
                there = row == shown
                self.assertEqual(refused_at(row, moves), None if there else len(moves) - 1)
                expected = [None, 1] if moves[0][0] == 0 else [1, None]
                self.assertEqual(origin_of(row, moves), expected if there else None)
                for value in all_rows(2, 4) + [[BIG, BIGGER]]:
                    self.assertIs(is_start(row, moves, value), there)

    def test_start_with(self):
        self.assertEqual(start_with([1, 2], [(1, 1, 4), (0, 1, 3)], 2, 7), [5, 2])
        self.assertEqual(start_with([1, 2], [(0, 1, 3)], 2, 7), [2, 5])


class StartWith(unittest.TestCase):
    def test_share_of_the_forgotten_slider(self):
        for top, bottom in SHARES:
            for row, moves in (([4, 3, 2], T), ([4, 3, 2], [(2, 2, 9)]), ([2, 3, 6, 1], [(1, 1, 3), (2, 1, 2)])):
                start = start_with(row, moves, top, bottom)
                self.assertIs(is_row(start), True)
                self.assertEqual(share_of(start, moves[0][0]), (top, bottom))
                self.assertEqual(row_after(start, moves), row)

    def test_in_lowest_terms_or_not(self):
        for top, bottom in SHARES:
            for factor in (2, 3, 12):
                start = start_with([4, 3, 2], T, top, bottom)
                self.assertEqual(start_with([4, 3, 2], T, top * factor, bottom * factor), start)

    def test_edges_of_the_share(self):
        self.assertEqual(start_with([4, 3, 2], T, 1, 2), [2, 1, 1])
        self.assertEqual(start_with([4, 3, 2], T, BIGGER - 1, BIGGER), [2 * BIGGER - 2, 1, 1])
        for top, bottom in ((0, 2), (2, 2), (3, 2), (-1, 2), (-2, -1), (1, 1), (0, 0), (0, 1), (BIGGER, BIGGER)):
            self.assertIs(raised_by(start_with, [4, 3, 2], T, top, bottom), InvalidNumberError)

    def test_wrong_numbers_ahead_of_no_origin(self):
        for row in ([2, 3, 4], [4, 3, 1]):
            for top, bottom in ((None, 2), (1, True), (2, 2), (0, 3), (True, 2)):
                self.assertIs(raised_by(start_with, row, T, top, bottom), InvalidNumberError)
            self.assertIs(raised_by(start_with, row, T, 2, 4), NoOriginError)
        self.assertEqual(raised_error(start_with, [2, 3, 4], T, 1, 2).index, 0)
        self.assertEqual(raised_error(start_with, [4, 3, 1], T, 1, 2).index, 1)


class IsStart(unittest.TestCase):
    def test_any_value(self):
        for value in ANY_VALUES:
            for row in ([4, 3, 2], [2, 3, 4]):
                for moves in (T, [], T[::-1]):
                    expected = value == A and row == [4, 3, 2] and moves == T if is_row(value) else False
                    self.assertIs(is_start(row, moves, value), expected, value)

    def test_rows_with_other_numbers_of_sliders(self):
        for value in ([1, 1], [2, 1], [5, 1, 1, 1], [1] * 8):
            self.assertIs(is_start([4, 3, 2], T, value), False)
            self.assertIs(is_start([2, 1], [(0, 2, 3)], value), len(value) == 2)
        # Such a row need not even have the sliders that the moves name.
        for moves in ([(2, 1, 2)], [(2, 1, 2), (0, 1, 4)], [(7, 1, 8)]):
            row = [1, 1, 2] if moves[0][0] == 2 else [1] * 8
            self.assertIs(is_start(row, moves, row), True)
            self.assertIs(is_start(row, moves, [1, 1]), False)

    def test_rows_with_a_common_divisor(self):
        self.assertIs(is_start([4, 3, 2], T, [5, 1, 1]), True)
        self.assertIs(is_start([4, 3, 2], T, [10, 2, 2]), False)
        self.assertIs(is_start([4, 3, 2], T, [5, True, 1]), False)

    def test_errors_whatever_the_value(self):
        for value in (None, A, [5, 1, 1]):
            self.assertIs(raised_by(is_start, [8, 6, 4], None, value), InvalidRowError)
            self.assertIs(raised_by(is_start, [4, 3, 2], None, value), InvalidMovesError)


if __name__ == "__main__":
    unittest.main()
