import unittest
from fractions import Fraction
from math import gcd

from sliders.moves import row_after
from sliders.rows import is_row, ratio_of, row_of, row_with, share_of, shares_of
from support import BIG, BIGGER, NOT_ROWS, NOT_SHARES, all_rows, fractions_of, long_moves

ROWS = all_rows(2, 5) + all_rows(3, 4) + [
    [1] * 8, [8, 7, 6, 5, 4, 3, 2, 1], [2, 4, 6, 8, 10, 12, 14, 15], [BIG, BIG + 1], [BIGGER, 1, BIGGER - 1],
    [1] + [BIGGER] * 7,
]


class IsRow(unittest.TestCase):
    def test_rows(self):
        for row in ROWS:
            self.assertIs(is_row(row), True, row)

    def test_any_other_value(self):
        deep = []
        for _ in range(39):
            deep = [deep]
        endless = [1, 2]
        endless.append(endless)
        for value in NOT_ROWS + [deep, [deep, deep], endless, int, is_row, {"row": [1, 1]}, [1] * 400]:
            self.assertIs(is_row(value), False, value)

    def test_common_divisor_of_all_but_not_of_each_pair(self):
        self.assertIs(is_row([6, 10, 15]), True)
        self.assertIs(is_row([12, 20, 30]), False)

    def test_two_and_eight_sliders(self):
        for many in range(12):
            self.assertIs(is_row([1] * many), 2 <= many <= 8)

    def test_rows_returned_by_the_package(self):
        row = row_after([1] * 8, long_moves(8, 40, 31))
        self.assertGreater(max(row), 10 ** 200)
        self.assertIs(is_row(row), True)
        self.assertIs(is_row([2 * weight for weight in row]), False)


class RowWith(unittest.TestCase):
    def test_ratios_are_kept_in_lowest_terms(self):
        for row in ROWS:
            for factor in (1, 2, 6, 35):
                self.assertEqual(row_with([weight * factor for weight in row]), row)

    def test_kind(self):
        self.assertIs(type(row_with([2, 4])), list)
        self.assertEqual([type(weight) for weight in row_with([2, 4])], [int, int])


class Shares(unittest.TestCase):
    def test_share_is_weight_by_sum_in_lowest_terms(self):
        for row in ROWS:
            shares = shares_of(row)
            self.assertIs(type(shares), list)
            self.assertEqual([Fraction(*share) for share in shares], fractions_of(row))
            for slider, share in enumerate(shares):
                self.assertIs(type(share), tuple)
                self.assertEqual(gcd(*share), 1)
                self.assertEqual(share_of(row, slider), share)

    def test_shares_of_larger_rows(self):
        row = row_after([BIG, 1, BIGGER], long_moves(3, 40, 31))
        self.assertEqual([Fraction(*share) for share in shares_of(row)], fractions_of(row))
        self.assertEqual(row_of(shares_of(row)), row)


class RowOf(unittest.TestCase):
    def test_row_of_its_shares(self):
        for row in ROWS:
            self.assertEqual(row_of(shares_of(row)), row)

    def test_not_in_lowest_terms(self):
        for row in ROWS:
            shares = [(top * (at + 2), bottom * (at + 2)) for at, (top, bottom) in enumerate(shares_of(row))]
            self.assertEqual(row_of(shares), row)
        self.assertEqual(row_of([(2, 4), (2, 4)]), [1, 1])
        self.assertEqual(row_of([(2, 12), (5, 6)]), [1, 5])

    def test_sum_is_exactly_one(self):
        self.assertEqual(row_of([(1, BIGGER), (BIGGER - 1, BIGGER)]), [1, BIGGER - 1])
        for wrong in ([(1, BIGGER), (BIGGER - 2, BIGGER)], [(2, BIGGER), (BIGGER - 1, BIGGER)]):
            with self.assertRaises(ValueError):
                row_of(wrong)

    def test_wrong_shares_are_really_wrong(self):
        for shares in NOT_SHARES:
            with self.assertRaises(ValueError):
                row_of(shares)


class RatioOf(unittest.TestCase):
    def test_ratios(self):
        for row in ROWS:
            for slider, weight in enumerate(row):
                for other, other_weight in enumerate(row):
                    ratio = ratio_of(row, slider, other)
                    self.assertIs(type(ratio), tuple)
                    self.assertEqual(Fraction(*ratio), Fraction(weight, other_weight))
                    self.assertEqual(gcd(*ratio), 1)

    def test_equal_sliders(self):
        self.assertEqual(ratio_of([4, 3, 2], 1, 1), (1, 1))

    def test_common_factor_of_two_weights(self):
        self.assertEqual(ratio_of([4, 6, 3], 0, 1), (2, 3))
        self.assertEqual(ratio_of([4, 6, 3], 1, 0), (3, 2))


if __name__ == "__main__":
    unittest.main()
