import unittest
from itertools import product

from sliders.moves import is_move, is_moves, merged, moved, row_after, walk_rows
from sliders.rows import is_row, share_of, shares_of
from support import (
    A, BIG, BIGGER, NOT_MOVES, NOT_MOVES_ALONE, T, all_moves, all_rows, fractions_of, long_moves, raised_by,
    shares_behind,
)


def some_lists(sliders):
    """Lists of moves: all short ones of small numbers, and some long ones."""
    found = [list(moves) for many in range(3) for moves in product(all_moves(sliders, 3), repeat=many)]
    return found + [long_moves(sliders, many, 1) for many in range(41)] + [long_moves(sliders, 40, 31)]


class IsMove(unittest.TestCase):
    def test_moves(self):
        for move in all_moves(8, 6) + [(7, 1, BIGGER), (0, BIGGER - 1, BIGGER), (3, BIG, BIG + 1)]:
            self.assertIs(is_move(move), True, move)

    def test_any_other_value(self):
        for value in NOT_MOVES_ALONE + [[(0, 1, 2)] * 41, (0, 1, 2, None), ((0, 1, 2),) * 3, [[[(0, 1, 2)]]]]:
            self.assertIs(is_move(value), False, value)

    def test_moves_larger_than_31_digits(self):
        row = row_after(A, long_moves(3, 40, 31))
        bottom, slider, top = max((bottom, slider, top) for slider, (top, bottom) in enumerate(shares_of(row)))
        self.assertGreater(bottom, 10 ** 200)
        self.assertIs(is_move((slider, top, bottom)), True)
        self.assertIs(is_move((slider, 2 * top, 2 * bottom)), False)
        self.assertEqual(moved(row, (slider, top, bottom)), row)


class IsMoves(unittest.TestCase):
    def test_moves(self):
        for moves in [[], T, T[::-1], [(0, 1, 2)] * 3, [(7, 1, 2)], long_moves(8, 40, 31)]:
            self.assertIs(is_moves(moves), True, moves)

    def test_any_other_value(self):
        for value in NOT_MOVES + [int, {"moves": []}, [[(0, 1, 2)]]]:
            self.assertIs(is_moves(value), False, value)

    def test_at_most_forty(self):
        for many in (0, 1, 39, 40, 41, 42, 400):
            self.assertIs(is_moves([(0, 1, 2)] * many), many <= 40)


class Moved(unittest.TestCase):
    def test_shares_behind_one_move(self):
        for sliders, most in ((2, 4), (3, 3), (4, 2)):
            for row, move in product(all_rows(sliders, most), all_moves(sliders, 4)):
                behind = moved(row, move)
                self.assertIs(is_row(behind), True)
                self.assertEqual(fractions_of(behind), shares_behind(fractions_of(row), [move]))

    def test_share_of_the_moved_slider_is_set(self):
        for move in all_moves(8, 5):
            self.assertEqual(share_of(moved([8, 7, 6, 5, 4, 3, 2, 1], move), move[0]), move[1:])

    def test_a_move_to_the_present_share_changes_nothing(self):
        for row in all_rows(3, 4):
            for slider, (top, bottom) in enumerate(shares_of(row)):
                self.assertEqual(moved(row, (slider, top, bottom)), row)

    def test_large_numbers(self):
        row, move = [BIGGER, BIG, 1, BIG - 1], (2, BIG, BIGGER)
        self.assertEqual(fractions_of(moved(row, move)), shares_behind(fractions_of(row), [move]))

    def test_first_slider_that_is_not_there(self):
        for sliders in range(2, 9):
            self.assertIsNone(raised_by(moved, [1] * sliders, (sliders - 1, 1, 2)))
            self.assertEqual(raised_by(moved, [1] * sliders, (sliders, 1, 2)).__name__, "InvalidMoveError")
            self.assertEqual(raised_by(row_after, [1] * sliders, [(sliders, 1, 2)]).__name__, "InvalidMovesError")


class RowAfter(unittest.TestCase):
    def test_shares_behind_moves_in_order(self):
        for sliders, rows in ((2, [[1, 1], [2, 5]]), (3, [A, [4, 3, 2], [BIG, 1, 2]]), (8, [[8, 7, 6, 5, 4, 3, 2, 1]])):
            for row, moves in product(rows, some_lists(sliders)[-500:]):
                behind = row_after(row, moves)
                self.assertIs(is_row(behind), True)
                self.assertEqual(fractions_of(behind), shares_behind(fractions_of(row), moves))

    def test_order_matters(self):
        self.assertEqual(row_after(A, T), [4, 3, 2])
        self.assertEqual(row_after(A, T[::-1]), [2, 1, 1])

    def test_no_moves(self):
        self.assertEqual(row_after([4, 3, 2], []), [4, 3, 2])

    def test_forty_moves_and_one_more(self):
        moves = long_moves(3, 40, 2)
        self.assertEqual(fractions_of(row_after(A, moves)), shares_behind(fractions_of(A), moves))
        for call in (row_after, lambda row, moves: list(walk_rows(row, moves))):
            self.assertEqual(raised_by(call, A, moves + [(0, 1, 2)]).__name__, "InvalidMovesError")


class WalkRows(unittest.TestCase):
    def test_row_at_first_and_behind_each_move(self):
        for moves in some_lists(3):
            walk = list(walk_rows([4, 3, 2], moves))
            self.assertEqual(walk, [row_after([4, 3, 2], moves[:many]) for many in range(len(moves) + 1)])

    def test_no_moves(self):
        self.assertEqual(list(walk_rows([1, 2], [])), [[1, 2]])

    def test_is_an_iterator(self):
        walk = walk_rows(A, T)
        self.assertIs(iter(walk), walk)
        self.assertEqual([next(walk), next(walk), next(walk), next(walk, None)], [A, [2, 1, 1], [4, 3, 2], None])

    def test_yielded_rows_may_be_changed(self):
        found = []
        for row in walk_rows(A, T):
            found.append(list(row))
            row[0] = 99
            row.clear()
        self.assertEqual(found, [[1, 1, 1], [2, 1, 1], [4, 3, 2]])

    def test_each_yielded_row_is_another_list(self):
        row = [2, 1, 1]
        walk = list(walk_rows(row, [(0, 1, 2), (0, 1, 2)]))
        self.assertEqual(walk, [row] * 3)
        self.assertEqual(len({id(part) for part in walk + [row]}), 4)

    def test_two_walks_go_on_independently(self):
        first, second = walk_rows(A, T), walk_rows(A, T)
        self.assertEqual([next(first), next(first)], [[1, 1, 1], [2, 1, 1]])
        next(second).clear()
        self.assertEqual([next(first), next(second), next(second)], [[4, 3, 2], [2, 1, 1], [4, 3, 2]])
        self.assertEqual([next(first, None), next(second, None)], [None, None])

    def test_a_walk_goes_on_whatever_becomes_of_the_arguments(self):
        row, moves = list(A), list(T)
        walk = walk_rows(row, moves)
        next(walk)
        row.clear()
        moves.clear()
        self.assertEqual(list(walk), [[2, 1, 1], [4, 3, 2]])

    def test_errors_at_the_call_or_at_the_first_row(self):
        for row, moves, name in [
            ([2, 4], T, "InvalidRowError"), (A, None, "InvalidMovesError"), (A, T + [(3, 1, 2)], "InvalidMovesError"),
            ((1, 1, 1), None, "InvalidRowError"), (A, T + [(0, 2, 4)], "InvalidMovesError"),
        ]:
            self.assertEqual(raised_by(lambda: next(walk_rows(row, moves))).__name__, name)


class Merged(unittest.TestCase):
    def test_only_the_last_of_neighbors_stays(self):
        a, b, c, d = (0, 1, 2), (0, 1, 3), (1, 1, 3), (7, 1, 4)
        for moves, expected in [
            ([], []), ([a], [a]), ([a, b], [b]), ([b, a], [a]), ([a, a, b, b], [b]), ([a, c, b], [a, c, b]),
            ([a, b, c], [b, c]), ([c, a, b], [c, b]), ([a, a, c, c, a], [a, c, a]), ([d, d], [d]), ([d, a, d], [d, a, d]),
            ([a] * 40, [a]), ([a, c] * 20, [a, c] * 20),
        ]:
            self.assertEqual(merged(moves), expected)

    def test_they_do_the_same(self):
        for moves in some_lists(3):
            once = merged(moves)
            self.assertIs(is_moves(once), True)
            self.assertEqual(merged(once), once)
            for row in (A, [4, 3, 2], [1, 5, BIG]):
                self.assertEqual(row_after(row, once), row_after(row, moves))

    def test_no_slider_is_moved_twice_in_a_row(self):
        for moves in some_lists(2):
            once = merged(moves)
            self.assertFalse([1 for one, other in zip(once, once[1:]) if one[0] == other[0]])


if __name__ == "__main__":
    unittest.main()
