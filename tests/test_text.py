import unittest
from itertools import product
from math import gcd

from sliders.errors import InvalidFormatError, InvalidMovesError, InvalidNumberError, InvalidRowError
from sliders.rows import is_row
from sliders.text import bars, format_moves, format_row, parse_moves, parse_row
from support import (
    ANY_VALUES, BIG, BIGGER, NOT_MOVES, NOT_MOVES_TEXTS, NOT_NUMBER_WORDS, NOT_ROW_TEXTS, NOT_ROWS, NOT_WIDTHS, T,
    all_moves, all_rows, long_moves, raised_by,
)

ROWS = all_rows(2, 12) + all_rows(3, 4) + [
    [1] * 8, [8, 7, 6, 5, 4, 3, 2, 1], [10, 1], [BIG, BIGGER], [BIGGER - at for at in range(8)], [10 ** 30, 1],
]


class FormatRow(unittest.TestCase):
    def test_weights_with_colons(self):
        self.assertEqual(format_row([4, 3, 2]), "4:3:2")
        self.assertEqual(format_row([1] * 8), "1:1:1:1:1:1:1:1")
        self.assertEqual(format_row([100, 1]), "100:1")
        self.assertEqual(format_row([BIGGER, 1]), "9" * 31 + ":1")

    def test_long_weights(self):
        self.assertEqual(format_row([10 ** 3999 + 1, 1]), "1" + "0" * 3998 + "1:1")

    def test_no_row(self):
        for row in NOT_ROWS:
            self.assertIs(raised_by(format_row, row), InvalidRowError)


class ParseRow(unittest.TestCase):
    def test_the_row_that_was_written(self):
        for row in ROWS:
            self.assertEqual(parse_row(format_row(row)), row)
            self.assertIs(type(parse_row(format_row(row))), list)

    def test_exactly_what_is_written_of_a_row(self):
        words = ["1", "2", "4", "01", "", "0", "+1", " 1", "3 "]
        for many in range(1, 4):
            for part in product(words, repeat=many):
                fine = all(word in ("1", "2", "4") for word in part) and is_row([int(word) for word in part])
                text = ":".join(part)
                self.assertIs(raised_by(parse_row, text), None if fine else InvalidFormatError)
                if fine:
                    self.assertEqual(format_row(parse_row(text)), text)

    def test_number_of_weights(self):
        for many in range(1, 12):
            expected = None if 2 <= many <= 8 else InvalidFormatError
            self.assertIs(raised_by(parse_row, ":".join(["1"] * many)), expected)

    def test_number_of_digits(self):
        for digits in range(1, 40):
            expected = None if digits <= 31 else InvalidFormatError
            for word in ("1" * digits, "9" * digits, "1" + "0" * (digits - 1)):
                self.assertIs(raised_by(parse_row, word + ":1"), expected)
                self.assertIs(raised_by(parse_row, "1:7:" + word), expected)
        self.assertEqual(parse_row("1" * 31 + ":" + "9" * 31 + ":1"), [int("1" * 31), BIGGER, 1])
        self.assertIs(raised_by(parse_row, format_row([10 ** 31, 1])), InvalidFormatError)

    def test_any_other_text(self):
        for text in NOT_ROW_TEXTS:
            self.assertIs(raised_by(parse_row, text), InvalidFormatError, text)
        for sign in [chr(code) for code in range(32, 127)] + ["\n"]:
            if not sign.isdigit():
                for text in (sign, sign + "1:2", "1:2" + sign, "1" + sign + ":2", "1:" + sign + "2", "1:2:" + sign):
                    self.assertIs(raised_by(parse_row, text), InvalidFormatError, text)
            if sign != ":" and not sign.isdigit():
                self.assertIs(raised_by(parse_row, "1" + sign + "2"), InvalidFormatError)

    def test_any_other_value(self):
        for value in ANY_VALUES:
            if type(value) is not str or value not in ("4:3:2", "1:1:1"):
                self.assertIs(raised_by(parse_row, value), InvalidFormatError)


class FormatMoves(unittest.TestCase):
    def test_words_with_single_spaces(self):
        self.assertEqual(format_moves([]), "")
        self.assertEqual(format_moves([(1, 2, 3)]), "1=2/3")
        self.assertEqual(format_moves(T), "0=1/2 1=1/3")
        self.assertEqual(format_moves([(7, 10, 101), (0, 1, BIGGER)]), "7=10/101 0=1/" + "9" * 31)

    def test_forty_moves(self):
        self.assertEqual(format_moves([(7, 1, 2)] * 40), "7=1/2 " * 39 + "7=1/2")

    def test_no_moves(self):
        for moves in NOT_MOVES:
            self.assertIs(raised_by(format_moves, moves), InvalidMovesError)


class ParseMoves(unittest.TestCase):
    def test_the_moves_that_were_written(self):
        for moves in [[], T, T[::-1], all_moves(8, 3)[:40], long_moves(8, 25, 31), long_moves(3, 40, 9)]:
            self.assertEqual(parse_moves(format_moves(moves)), moves)
        for one, other in product(all_moves(8, 4), repeat=2):
            self.assertEqual(parse_moves(format_moves([one, other])), [one, other])

    def test_kinds(self):
        self.assertEqual(parse_moves(""), [])
        moves = parse_moves("0=1/2 1=1/3")
        self.assertEqual([type(moves), {type(move) for move in moves}], [list, {tuple}])

    def test_number_of_words(self):
        for many in range(1, 44):
            expected = None if many <= 40 else InvalidFormatError
            self.assertIs(raised_by(parse_moves, " ".join(["7=1/2"] * many)), expected)
        self.assertEqual(parse_moves(" ".join(["7=1/2"] * 40)), [(7, 1, 2)] * 40)

    def test_sliders(self):
        for slider in range(30):
            expected = None if slider < 8 else InvalidFormatError
            self.assertIs(raised_by(parse_moves, f"{slider}=1/2"), expected)
            self.assertIs(raised_by(parse_moves, f"0=1/2 {slider}=1/2"), expected)
            self.assertIs(raised_by(parse_moves, f"0{slider}=1/2"), InvalidFormatError)

    def test_shares(self):
        for top, bottom in product(range(9), repeat=2):
            expected = None if 1 <= top < bottom and gcd(top, bottom) == 1 else InvalidFormatError
            self.assertIs(raised_by(parse_moves, f"3={top}/{bottom}"), expected)
            self.assertIs(raised_by(parse_moves, f"3={top}/{bottom} 0=1/2"), expected)
            self.assertIs(raised_by(parse_moves, f"3=0{top}/{bottom}"), InvalidFormatError)
            self.assertIs(raised_by(parse_moves, f"3={top}/0{bottom}"), InvalidFormatError)

    def test_number_of_digits(self):
        for digits in range(1, 40):
            expected = None if digits <= 31 else InvalidFormatError
            self.assertIs(raised_by(parse_moves, "0=1/" + "9" * digits), expected)
            expected = None if digits <= 30 else InvalidFormatError
            self.assertIs(raised_by(parse_moves, "0=" + "9" * digits + "/1" + "0" * digits), expected)

    def test_any_other_text(self):
        for text in NOT_MOVES_TEXTS:
            self.assertIs(raised_by(parse_moves, text), InvalidFormatError, text)
        for sign in [chr(code) for code in range(32, 127)] + ["\n"]:
            if sign.isdigit():
                continue
            for at in range(len("0=1/2") + 1):
                text = "0=1/2"[:at] + sign + "0=1/2"[at:]
                self.assertIs(raised_by(parse_moves, text), InvalidFormatError, text)
            if sign != " ":
                self.assertIs(raised_by(parse_moves, "0=1/2" + sign + "1=1/3"), InvalidFormatError)
            if sign != "=":
                self.assertIs(raised_by(parse_moves, "0" + sign + "1/2"), InvalidFormatError)
            if sign != "/":
                self.assertIs(raised_by(parse_moves, "0=1" + sign + "2"), InvalidFormatError)

    def test_each_part_is_a_number(self):
        for word in NOT_NUMBER_WORDS:
            for text in (f"{word}=1/2", f"0={word}/7", f"0=1/{word}", f"0=1/2 1={word}/7"):
                self.assertIs(raised_by(parse_moves, text), InvalidFormatError, text)

    def test_any_other_value(self):
        for value in ANY_VALUES:
            if type(value) is not str or value not in ("", "0=1/2"):
                self.assertIs(raised_by(parse_moves, value), InvalidFormatError)


class Bars(unittest.TestCase):
    def test_by_the_words_of_the_document(self):
        for row in ROWS:
            for width in (1, 2, 3, 7, 10, 12, 60, 99, 100):
                told = bars(row, width)
                self.assertEqual([type(told), len(told)], [list, len(row)])
                for slider, line in enumerate(told):
                    full = line.count("#")
                    self.assertEqual(line, f"{slider} " + "#" * full + "." * (width - full))
                    # Rounded down: not more than the share, and less than one sign short of it.
                    self.assertLessEqual(full * sum(row), row[slider] * width)
                    self.assertGreater((full + 1) * sum(row), row[slider] * width)

    def test_shares_that_fill_signs_exactly(self):
        self.assertEqual(bars([1, 1], 100), ["0 " + "#" * 50 + "." * 50, "1 " + "#" * 50 + "." * 50])
        self.assertEqual(bars([3, 2, 1], 6), ["0 ###...", "1 ##....", "2 #....."])
        self.assertEqual(bars([3, 1], 4), ["0 ###.", "1 #..."])
        self.assertEqual(bars([10 ** 30, 3 * 10 ** 30 - 1, 1], 4), ["0 #...", "1 ##..", "2 ...."])

    def test_width_of_one(self):
        self.assertEqual(bars([1, 2], 1), ["0 .", "1 ."])
        self.assertEqual(bars([BIGGER, 1], 1), ["0 .", "1 ."])

    def test_widths(self):
        for width in range(-3, 105):
            expected = None if 1 <= width <= 100 else InvalidNumberError
            self.assertIs(raised_by(bars, [1, 2], width), expected)

    def test_wrong_arguments(self):
        for width in NOT_WIDTHS:
            self.assertIs(raised_by(bars, [1, 2], width), InvalidNumberError)
        for row, width in product(NOT_ROWS, NOT_WIDTHS[::5] + [10]):
            self.assertIs(raised_by(bars, row, width), InvalidRowError)

    def test_long_weights(self):
        row = [10 ** 3999, 10 ** 3999 - 1]
        self.assertEqual(bars(row, 2), ["0 #.", "1 .."])


if __name__ == "__main__":
    unittest.main()
