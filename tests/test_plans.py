import unittest
from fractions import Fraction
from itertools import combinations, permutations, product
from math import factorial

from sliders.errors import InvalidMovesError, InvalidNumberError, InvalidRowError, NotShortestError
from sliders.moves import is_moves, row_after
from sliders.plans import count_plans, fewest_moves, is_plan, nth_plan, plan_rank, sliders_kept
from sliders.rows import row_with
from support import A, ANY_VALUES, BIG, BIGGER, NOT_MOVES, T, all_moves, all_rows, long_moves, raised_by

# Rows of many numbers of sliders, with all quotients different, some equal, and several greatest sets of equal ones.
PAIRS = [
    ([1, 1], [1, 1]), ([1, 1], [1, 2]), ([2, 3], [3, 2]),
    (A, A), (A, [4, 3, 2]), (A, [2, 1, 1]), (A, [1, 2, 2]), ([4, 3, 2], A), ([2, 1, 1], [6, 1, 1]), ([1, 2, 3], [3, 2, 1]),
    ([1, 2, 3, 4], [4, 3, 2, 1]), ([1, 1, 1, 1], [1, 1, 2, 2]), ([1, 1, 1, 1], [2, 3, 2, 3]), ([1, 2, 3, 4], [2, 4, 9, 12]),
    ([1, 1, 1, 1], [1, 2, 2, 3]), ([6, 3, 2, 1], [5, 5, 3, 1]), ([1, 2, 3, 4], [1, 2, 3, 4]),
    ([1, 1, 1, 1, 1], [5, 4, 3, 2, 1]), ([1, 1, 1, 1, 1], [1, 2, 2, 3, 3]), ([1, 1, 1, 1, 1], [1, 2, 1, 2, 1]),
    ([5, 1, 4, 2, 3], [1, 2, 3, 4, 5]), ([3, 1, 4, 1, 5], [6, 2, 9, 3, 10]), ([1, 2, 3, 4, 5], [1, 2, 3, 4, 50]),
    ([1, 1, 1, 1, 1], [1, 1, 3, 3, 2]), ([BIG, BIGGER, 1], [1, BIG, BIGGER]),
]
LARGE_PAIRS = [
    ([1] * 6, [6, 5, 4, 3, 2, 1]), ([1] * 6, [1, 1, 2, 2, 3, 3]), ([1] * 7, [7, 6, 5, 4, 3, 2, 1]),
    ([1] * 8, [8, 7, 6, 5, 4, 3, 2, 1]), ([1] * 8, [1, 2, 1, 2, 1, 2, 1, 2]), ([1] * 8, [1, 1, 2, 2, 3, 3, 4, 4]),
    ([1] * 8, [1] * 7 + [2]), ([8, 7, 6, 5, 4, 3, 2, 1], [1, 2, 3, 4, 5, 6, 7, 8]), ([1] * 8, [1] * 8),
    ([BIGGER - at * at for at in range(8)], [BIG + at for at in range(8)]),
]


def quotients(row, other_row):
    return [Fraction(wanted, weight) for weight, wanted in zip(row, other_row)]


def kept_sets(row, other_row):
    """All greatest sets of sliders with the same quotient, found by trying all sets."""
    told = quotients(row, other_row)
    for many in range(len(row), 0, -1):
        found = [
            list(part) for part in combinations(range(len(row)), many) if len({told[slider] for slider in part}) == 1
        ]
        if found:
            return found


def plan_for(row, other_row, order):
    """The moves that set these sliders one by one, None if they do not lead there; over weights alone."""
    kept = [slider for slider in range(len(row)) if slider not in order]
    told = quotients(row, other_row)
    if len({told[slider] for slider in kept}) != 1:
        return None
    weights = [Fraction(weight) for weight in row]
    found = []
    for slider in order:
        weights[slider] = other_row[slider] / told[kept[0]]
        share = weights[slider] / sum(weights)
        found.append((slider, share.numerator, share.denominator))
    return found


def all_plans(row, other_row):
    """All plans, in list order."""
    many = len(row) - len(kept_sets(row, other_row)[0])
    found = [plan_for(row, other_row, order) for order in permutations(range(len(row)), many)]
    return sorted(plan for plan in found if plan is not None)


class FewestMoves(unittest.TestCase):
    def test_number_of_sliders_less_the_greatest_number_of_equal_quotients(self):
        for row, other_row in PAIRS + LARGE_PAIRS:
            self.assertEqual(fewest_moves(row, other_row), len(row) - len(kept_sets(row, other_row)[0]))
            self.assertEqual(fewest_moves(other_row, row), fewest_moves(row, other_row))

    def test_no_list_of_moves_is_shorter(self):
        for row, most, bottom in (([1, 2], 3, 4), (A, 2, 5), ([4, 3, 2], 2, 4), ([1, 1, 1, 1], 3, 2), ([1, 2, 3, 4], 2, 3)):
            for many in range(most + 1):
                for moves in product(all_moves(len(row), bottom), repeat=many):
                    self.assertLessEqual(fewest_moves(row, row_after(row, list(moves))), many)

    def test_all_pairs_of_small_rows_are_led_to_each_other(self):
        for sliders, most in ((2, 4), (3, 3), (4, 2)):
            for row, other_row in product(all_rows(sliders, most), repeat=2):
                plan = nth_plan(row, other_row, 0)
                self.assertEqual(len(plan), fewest_moves(row, other_row))
                self.assertEqual(row_after(row, plan), other_row)
                self.assertEqual(len({move[0] for move in plan}), len(plan))
                self.assertEqual(fewest_moves(row, other_row) == 0, row == other_row)

    def test_edges(self):
        self.assertEqual(fewest_moves([1] * 8, [8, 7, 6, 5, 4, 3, 2, 1]), 7)
        self.assertEqual(fewest_moves([1] * 8, [1] * 8), 0)
        self.assertEqual(fewest_moves([1, 2], [2, 1]), 1)
        self.assertEqual(fewest_moves([1, 1, 1, 1], [1, 1, 2, 2]), 2)

    def test_rows_that_the_package_returned(self):
        row = row_after([1, 2, 3, 4], long_moves(4, 40, 31))
        self.assertEqual(fewest_moves(row, row_with([row[0] * 2, row[1] * 2, row[2] * 2, row[3]])), 1)
        self.assertEqual(fewest_moves(row, [1, 2, 3, 4]), 3)


class Plans(unittest.TestCase):
    def test_all_of_them_in_list_order(self):
        for row, other_row in PAIRS:
            expected = all_plans(row, other_row)
            found = [nth_plan(row, other_row, index) for index in range(count_plans(row, other_row))]
            self.assertEqual(found, expected)
            self.assertEqual(found, sorted(found))
            for index, plan in enumerate(found):
                self.assertEqual(plan_rank(row, plan), index)
                self.assertIs(is_plan(row, other_row, plan), True)
                self.assertEqual(row_after(row, plan), other_row)

    def test_all_of_them_between_small_rows(self):
        for sliders, most in ((2, 4), (3, 3), (4, 2)):
            for row, other_row in product(all_rows(sliders, most), repeat=2):
                expected = all_plans(row, other_row)
                self.assertEqual(count_plans(row, other_row), len(expected))
                self.assertEqual([nth_plan(row, other_row, index) for index in range(len(expected))], expected)
                self.assertEqual([plan_rank(row, plan) for plan in expected], list(range(len(expected))))

    def test_no_other_list_of_as_many_moves_leads_there(self):
        for other_row, bottom in (([4, 3, 2], 11), ([2, 1, 1], 8), ([1, 2, 2], 6)):
            many = fewest_moves(A, other_row)
            lists = [list(part) for part in product(all_moves(3, bottom), repeat=many)]
            found = [moves for moves in lists if row_after(A, moves) == other_row]
            self.assertEqual(sorted(found), [nth_plan(A, other_row, at) for at in range(count_plans(A, other_row))])
            for moves in lists[::7]:
                self.assertIs(is_plan(A, other_row, moves), moves in found)

    def test_many_sliders(self):
        for row, other_row in LARGE_PAIRS:
            many = count_plans(row, other_row)
            kept = kept_sets(row, other_row)
            self.assertEqual(many, len(kept) * factorial(len(row) - len(kept[0])))
            last = None
            for index in sorted({*range(min(many, 30)), *range(0, many, many // 40 + 1), *range(max(0, many - 30), many)}):
                plan = nth_plan(row, other_row, index)
                self.assertIs(is_moves(plan), True)
                self.assertEqual(row_after(row, plan), other_row)
                self.assertEqual(plan_rank(row, plan), index)
                self.assertTrue(last is None or last < plan)
                last = plan

    def test_tuples_are_ordered_by_their_numbers_and_not_by_the_share(self):
        found = [nth_plan([1, 1, 1, 1], [1, 1, 3, 3], index) for index in range(4)]
        self.assertEqual(found, sorted(found))
        self.assertEqual(found, all_plans([1, 1, 1, 1], [1, 1, 3, 3]))
        # The share 1/2 is greater than 2/5, and 3/7 is greater than 3/11.
        firsts = [(0, 1, 2), (0, 2, 5), (1, 3, 7), (1, 3, 11), (2, 1, 4), (2, 1, 5)]
        self.assertEqual([nth_plan(A, [4, 3, 2], index)[0] for index in range(6)], firsts)

    def test_a_row_to_itself_has_one_plan(self):
        for row in ([1, 1], A, [4, 3, 2], [8, 7, 6, 5, 4, 3, 2, 1]):
            self.assertEqual([count_plans(row, row), nth_plan(row, row, 0), fewest_moves(row, row)], [1, [], 0])
            self.assertEqual(plan_rank(row, []), 0)
            self.assertIs(is_plan(row, row, []), True)
            self.assertEqual(sliders_kept(row, row), [list(range(len(row)))])
            self.assertIs(raised_by(nth_plan, row, list(row), 1), InvalidNumberError)

    def test_first_index_and_last_one_and_one_beyond(self):
        for row, other_row in PAIRS + LARGE_PAIRS:
            many = count_plans(row, other_row)
            for index in (0, many - 1):
                self.assertEqual(plan_rank(row, nth_plan(row, other_row, index)), index)
            for index in (many, many + 1, -1, -many, BIG, None, True, False, "0"):
                self.assertIs(raised_by(nth_plan, row, other_row, index), InvalidNumberError)

    def test_wrong_rows_ahead_of_a_wrong_index(self):
        for index in (0, 6, -1, None, True):
            self.assertIs(raised_by(nth_plan, [2, 4], [4, 3, 2], index), InvalidRowError)
            self.assertIs(raised_by(nth_plan, A, [4, 6, 2], index), InvalidRowError)
            self.assertIs(raised_by(nth_plan, A, [4, 3], index), InvalidRowError)


class PlanRank(unittest.TestCase):
    def test_moves_that_are_no_plan(self):
        for row, moves in (
            (A, [(0, 1, 3)]), (A, [(0, 1, 2), (0, 2, 3)]), (A, [(0, 1, 2), (0, 1, 3)]), (A, [(0, 1, 2), (1, 1, 4)]),
            (A, [(0, 1, 2), (0, 1, 2)]), (A, T + [(0, 4, 9)]), (A, T + [(2, 1, 2)]), (A, T * 2), ([4, 3, 2], [(1, 1, 3)]),
            ([1, 1], [(0, 1, 2)]), ([1, 1], [(0, 1, 3), (1, 1, 3)]), ([1, 1], [(0, 1, 3), (1, 2, 3)]),
            ([1, 1, 1, 1], [(0, 2, 5), (1, 1, 3), (2, 2, 7)]), ([1, 2, 3], long_moves(3, 40, 31)), ([1, 1], [(0, 1, 3)] * 40),
        ):
            self.assertIs(raised_by(plan_rank, row, moves), NotShortestError)
            self.assertIs(is_plan(row, row_after(row, moves), moves), False)

    def test_each_short_list_is_a_plan_or_none(self):
        for row, most, bottom in (([1, 2], 2, 5), (A, 2, 5), ([1, 1, 1, 1], 2, 3)):
            for many in range(most + 1):
                for part in product(all_moves(len(row), bottom), repeat=many):
                    moves = list(part)
                    behind = row_after(row, moves)
                    if len(moves) == fewest_moves(row, behind):
                        self.assertEqual(nth_plan(row, behind, plan_rank(row, moves)), moves)
                    else:
                        self.assertIs(raised_by(plan_rank, row, moves), NotShortestError)

    def test_wrong_arguments_ahead_of_no_plan(self):
        self.assertIs(raised_by(plan_rank, [2, 2], [(0, 1, 2)]), InvalidRowError)
        self.assertIs(raised_by(plan_rank, [1, 1], [(0, 1, 2), (2, 1, 2)]), InvalidMovesError)
        self.assertIs(raised_by(plan_rank, [1, 1], [(0, 1, 2), (1, 2, 4)]), InvalidMovesError)


class IsPlan(unittest.TestCase):
    def test_any_value(self):
        for value in ANY_VALUES:
            for row, other_row in ((A, [4, 3, 2]), (A, A), ([1, 1], [2, 1])):
                expected = row == other_row and type(value) is list and len(value) == 0
                self.assertIs(is_plan(row, other_row, value), expected, value)
        for value in NOT_MOVES:
            self.assertIs(is_plan(A, A, value), False)

    def test_moves_that_lead_elsewhere_or_are_too_many(self):
        self.assertIs(is_plan(A, [4, 3, 2], T), True)
        for moves in ([], T[:1], T[::-1], T + T[1:], [(0, 1, 2)] + T, [(0, 1, 3)] + T, [(3, 1, 2)], T[:1] + [(7, 1, 3)]):
            self.assertIs(is_plan(A, [4, 3, 2], moves), False)
        self.assertIs(is_plan(A, A, [(0, 1, 3)]), False)
        self.assertIs(is_plan([2, 1, 1], [6, 1, 1], [(0, 3, 4)]), True)
        self.assertIs(is_plan([2, 1, 1], [6, 1, 1], [(0, 2, 3), (0, 3, 4)]), False)
        self.assertIs(is_plan([2, 1, 1], [6, 1, 1], [(0, True, 4)]), False)
        self.assertIs(is_plan([2, 1, 1], [6, 1, 1], ((0, 3, 4),)), False)

    def test_errors_whatever_the_value(self):
        for value in (None, [], T):
            self.assertIs(raised_by(is_plan, [2, 2], [1, 1], value), InvalidRowError)
            self.assertIs(raised_by(is_plan, A, [1, 1], value), InvalidRowError)


class SlidersKept(unittest.TestCase):
    def test_all_greatest_sets_in_order(self):
        for row, other_row in PAIRS + LARGE_PAIRS:
            self.assertEqual(sliders_kept(row, other_row), kept_sets(row, other_row))

    def test_exactly_the_sliders_that_some_plan_does_not_move(self):
        for row, other_row in PAIRS:
            found = []
            for plan in all_plans(row, other_row):
                kept = [slider for slider in range(len(row)) if slider not in [move[0] for move in plan]]
                found += [] if kept in found else [kept]
            self.assertEqual(sliders_kept(row, other_row), sorted(found))

    def test_sets_that_are_not_neighbors(self):
        self.assertEqual(sliders_kept([1, 1, 1, 1], [2, 3, 2, 3]), [[0, 2], [1, 3]])
        self.assertEqual(sliders_kept([1, 1, 1, 1], [2, 3, 3, 2]), [[0, 3], [1, 2]])
        self.assertEqual(sliders_kept([1, 1, 1, 1], [1, 2, 2, 3]), [[1, 2]])
        self.assertEqual(sliders_kept([1, 2], [2, 1]), [[0], [1]])


class OtherNumbersOfSliders(unittest.TestCase):
    def test_the_second_row_is_wrong(self):
        for call in (fewest_moves, count_plans, sliders_kept):
            for sliders, others in product(range(2, 9), repeat=2):
                expected = None if sliders == others else InvalidRowError
                self.assertIs(raised_by(call, [1] * sliders, [1] * others), expected)


if __name__ == "__main__":
    unittest.main()
