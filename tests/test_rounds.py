import unittest
from fractions import Fraction
from itertools import combinations, permutations, product

from sliders.errors import InvalidNumberError, InvalidRoundError, InvalidRowError
from sliders.lists import MoveList
from sliders.moves import row_after
from sliders.rounds import after_rounds, is_steady, limit_of
from sliders.rows import reduced, shares_of
from support import (
    A, BIG, BIGGER, NOT_ROUNDS, NOT_ROWS, NOT_TIMES, T, all_moves, all_rows, fractions_of, long_moves, raised_by,
    shares_behind,
)

FUNCTIONS = [(after_rounds, (2,)), (is_steady, ()), (limit_of, ())]


def all_rounds(sliders, most_bottom):
    """All rounds of so many sliders with a bottom up to this one."""
    moves = all_moves(sliders, most_bottom)
    rounds = []
    for many in range(1, sliders):
        for part in permutations(moves, many):
            if len({move[0] for move in part}) == many:
                rounds.append(list(part))
    return rounds


def limit_by_words(row, moves):
    """The shares of the limit, by the words of [20] alone; None if there is no limit."""
    told = {slider: Fraction(top, bottom) for slider, top, bottom in moves}
    left = 1 - sum(told.values())
    if left <= 0:
        return None
    others = sum(weight for slider, weight in enumerate(row) if slider not in told)
    return [told[slider] if slider in told else left * weight / others for slider, weight in enumerate(row)]


def steady_round(row, sliders):
    """A round that leaves the row as it is."""
    return [(slider, *shares_of(row)[slider]) for slider in sliders]


class WrongRounds(unittest.TestCase):
    def test_number_of_moves(self):
        for sliders in range(2, 9):
            row = [1] * sliders
            moves = [(slider, 1, 9) for slider in range(sliders)]
            for many in range(10):
                expected = None if 1 <= many < sliders else InvalidRoundError
                for function, more in FUNCTIONS:
                    self.assertIs(raised_by(function, row, moves[:many], *more), expected)
                    self.assertIs(raised_by(function, row, moves[::-1][:many], *more), expected)

    def test_a_slider_twice(self):
        for function, more in FUNCTIONS:
            for moves in ([(0, 1, 2), (0, 1, 2)], [(0, 1, 2), (1, 1, 2), (0, 1, 3)], [(2, 1, 9), (1, 1, 9), (1, 1, 8)]):
                self.assertIs(raised_by(function, [1] * 8, moves, *more), InvalidRoundError)

    def test_a_slider_that_is_not_there(self):
        for sliders in range(2, 8):
            for function, more in FUNCTIONS:
                self.assertIs(raised_by(function, [1] * sliders, [(sliders, 1, 2)], *more), InvalidRoundError)
                self.assertIs(raised_by(function, [1] * sliders, [(7, 1, 2)], *more), InvalidRoundError)
                self.assertIs(raised_by(function, [1] * sliders, [(sliders - 1, 1, 2)], *more), None)
        for function, more in FUNCTIONS:
            self.assertIs(raised_by(function, [1] * 8, [(8, 1, 2)], *more), InvalidRoundError)

    def test_any_other_value(self):
        for function, more in FUNCTIONS:
            for wrong in NOT_ROUNDS:
                self.assertIs(raised_by(function, A, wrong, *more), InvalidRoundError)

    def test_order_of_the_errors(self):
        for row, moves, times in product(NOT_ROWS[::7] + [A], NOT_ROUNDS[::7] + [T], NOT_TIMES[::3] + [2]):
            expected = None
            if type(times) is not int or not 0 <= times <= 12:
                expected = InvalidNumberError
            if moves is not T:
                expected = InvalidRoundError
            if row is not A:
                expected = InvalidRowError
            self.assertIs(raised_by(after_rounds, row, moves, times), expected)
        for row, moves in product(NOT_ROWS[::5], NOT_ROUNDS[::5]):
            self.assertIs(raised_by(is_steady, row, moves), InvalidRowError)
            self.assertIs(raised_by(limit_of, row, moves), InvalidRowError)


class AfterRounds(unittest.TestCase):
    def test_numbers_of_times(self):
        for times in range(-3, 20):
            expected = None if 0 <= times <= 12 else InvalidNumberError
            self.assertIs(raised_by(after_rounds, A, T, times), expected)
        for wrong in NOT_TIMES:
            self.assertIs(raised_by(after_rounds, A, T, wrong), InvalidNumberError)

    def test_shares(self):
        for row in ([1, 2], [1, 1, 1], [4, 3, 2]):
            for moves in all_rounds(len(row), 3):
                for times in (0, 1, 2, 5, 12):
                    behind = after_rounds(row, moves, times)
                    self.assertEqual(fractions_of(behind), shares_behind(fractions_of(row), moves * times))
                    self.assertEqual(reduced(behind), behind)

    def test_no_times_is_a_new_row(self):
        row = [4, 3, 2]
        after_rounds(row, T, 0).clear()
        self.assertEqual([after_rounds(row, T, 0), row], [[4, 3, 2], [4, 3, 2]])

    def test_time_after_time(self):
        for row, moves in (([1, 2], [(1, 1, 7)]), (A, T), ([8, 7, 6, 5], [(3, 1, 2), (0, 2, 5), (1, 1, 3)])):
            behind = row
            for times in range(13):
                self.assertEqual(after_rounds(row, moves, times), behind)
                behind = row_after(behind, moves)

    def test_the_same_as_a_move_list_so_many_times(self):
        for row in all_rows(3, 3):
            for moves in all_rounds(3, 3)[::3]:
                for times in range(13):
                    self.assertEqual(after_rounds(row, moves, times), (MoveList(3, *moves) * times)(row))

    def test_long_numbers(self):
        row = [BIGGER - at for at in range(8)]
        moves = [(slider, top, bottom) for slider, (_, top, bottom) in enumerate(long_moves(8, 7, 31))]
        behind = after_rounds(row, moves, 12)
        self.assertEqual(fractions_of(behind), shares_behind(fractions_of(row), moves * 12))
        self.assertLess(max(behind), 10 ** 4000)


class IsSteady(unittest.TestCase):
    def test_exactly_if_all_moved_sliders_show_their_shares(self):
        found = {True: 0, False: 0}
        for row in all_rows(2, 4) + all_rows(3, 3):
            for moves in all_rounds(len(row), 4):
                told = shares_of(row)
                expected = all(told[slider] == (top, bottom) for slider, top, bottom in moves)
                self.assertIs(is_steady(row, moves), expected)
                self.assertIs(after_rounds(row, moves, 1) == row, expected)
                found[expected] += 1
        self.assertGreater(min(found.values()), 10)

    def test_limits_are_steady(self):
        for row in ([1, 2], [4, 3, 2], [1, 2, 3, 4]):
            for moves in all_rounds(len(row), 4)[::3]:
                limit = limit_of(row, moves)
                if limit is not None:
                    self.assertIs(is_steady(limit, moves), True)
                    self.assertIs(is_steady(row, moves), row == limit)

    def test_one_share_is_another_one(self):
        for row in ([4, 3, 2, 1], [5, 5, 1, 1], [BIG, BIGGER, 7, 9]):
            for many in (1, 2, 3):
                for sliders in permutations(range(4), many):
                    moves = steady_round(row, sliders)
                    self.assertIs(is_steady(row, moves), True)
                    for at, (slider, top, bottom) in enumerate(moves):
                        changed = moves[:at] + [(slider, 1, 2 * bottom + 1)] + moves[at + 1:]
                        self.assertIs(is_steady(row, changed), False)

    def test_the_last_and_the_first_move_count(self):
        self.assertIs(is_steady([3, 2, 1], [(0, 1, 2), (1, 1, 4)]), False)
        self.assertIs(is_steady([3, 2, 1], [(0, 1, 4), (1, 1, 3)]), False)


class LimitOf(unittest.TestCase):
    def test_by_the_words_of_the_document(self):
        found = {True: 0, False: 0}
        for row in all_rows(2, 4) + all_rows(3, 3) + [[1, 2, 3, 4]]:
            for moves in all_rounds(len(row), 4)[::2]:
                expected = limit_by_words(row, moves)
                limit = limit_of(row, moves)
                found[expected is None] += 1
                if expected is None:
                    self.assertIsNone(limit)
                else:
                    self.assertEqual(fractions_of(limit), expected)
                    self.assertEqual(reduced(limit), limit)
        self.assertGreater(min(found.values()), 100)

    def test_shares_about_one(self):
        for sliders, many in ((3, 2), (4, 2), (8, 2), (8, 7)):
            row = list(range(1, sliders + 1))
            for moved in list(combinations(range(sliders), many))[::5]:
                halves = [(moved[0], 1, 2)] + [(slider, 1, 2 * (many - 1)) for slider in moved[1:]]
                self.assertIsNone(limit_of(row, halves))
                for bottom in (7, 10 ** 9 + 1, BIGGER):
                    more = [(moved[0], (bottom + 1) // 2, bottom)] + halves[1:]
                    less = [(moved[0], (bottom - 1) // 2, bottom)] + halves[1:]
                    self.assertIsNone(limit_of(row, more))
                    self.assertEqual(fractions_of(limit_of(row, less)), limit_by_words(row, less))

    def test_one_move_is_at_its_limit_at_once(self):
        for row in all_rows(3, 3):
            for move in all_moves(3, 5):
                self.assertEqual(limit_of(row, [move]), after_rounds(row, [move], 1))

    def test_the_order_of_the_moves_is_of_no_account(self):
        row, moves = [4, 3, 2, 1], [(0, 1, 5), (2, 1, 7), (3, 2, 9)]
        for part in permutations(moves):
            self.assertEqual(limit_of(row, list(part)), limit_of(row, moves))

    def test_rounds_come_nearer(self):
        for row in ([1, 1, 1], [9, 1, 5]):
            for moves in all_rounds(3, 5)[::3]:
                limit = limit_by_words(row, moves)
                if limit is None:
                    continue
                far = []
                for times in (0, 3, 6, 12):
                    behind = fractions_of(after_rounds(row, moves, times))
                    far.append(max(abs(one - other) for one, other in zip(behind, limit)))
                for more, less in zip(far, far[1:]):
                    self.assertTrue(less < more or less == 0)

    def test_without_a_limit_the_others_come_to_nothing(self):
        for moves in ([(0, 1, 2), (1, 1, 2)], [(0, 2, 3), (1, 1, 2)]):
            left = [fractions_of(after_rounds(A, moves, times))[2] for times in range(13)]
            self.assertEqual(sorted(left, reverse=True), left)
            self.assertLess(left[12], Fraction(1, 24))

    def test_long_numbers(self):
        row = [BIGGER - at for at in range(8)]
        moves = [(slider, 10 ** 30 + slider, 8 * 10 ** 30 + 8 * slider + 1) for slider in range(7)]
        self.assertEqual(fractions_of(limit_of(row, moves)), limit_by_words(row, moves))


if __name__ == "__main__":
    unittest.main()
