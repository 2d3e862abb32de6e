import unittest
from itertools import combinations, product
from math import gcd

from sliders.moves import merged, row_after
from sliders.rows import is_row, row_with
from sliders.tables import are_alike, do_same, forgotten, is_parting, parting_row, table_of
from support import A, BIG, BIGGER, NOT_ROWS, T, all_moves, all_rows, long_moves, raised_by, times_table

SAMPLES = {2: all_rows(2, 6), 3: all_rows(3, 5), 4: all_rows(4, 3), 8: [[1] * 8, [8, 7, 6, 5, 4, 3, 2, 1]]}


def short_lists(sliders):
    """All lists of up to two moves with small numbers, and some of three."""
    moves = all_moves(sliders, 3)
    found = [list(part) for many in range(3) for part in product(moves, repeat=many)]
    return found + [list(part) for part in product(moves[::2], repeat=3)][::7]


class TableOf(unittest.TestCase):
    def test_no_moves(self):
        for sliders in range(2, 9):
            expected = [[int(at == other) for other in range(sliders)] for at in range(sliders)]
            self.assertEqual(table_of(sliders, []), expected)

    def test_one_move(self):
        self.assertEqual(table_of(3, [(0, 1, 2)]), [[0, 1, 1], [0, 1, 0], [0, 0, 1]])
        self.assertEqual(table_of(3, [(1, 2, 5)]), [[3, 0, 0], [2, 0, 2], [0, 0, 3]])

    def test_two_sliders(self):
        self.assertEqual(table_of(2, [(0, 1, 3)]), [[0, 1], [0, 2]])
        self.assertEqual(table_of(2, [(1, 2, 3)]), [[1, 0], [2, 0]])
        self.assertEqual(table_of(2, [(0, 1, 3), (1, 1, 2)]), [[0, 1], [0, 1]])

    def test_tells_the_row_behind_the_moves(self):
        for sliders, rows in SAMPLES.items():
            for moves in short_lists(sliders)[:150] + [long_moves(sliders, many, 3) for many in range(41)]:
                table = table_of(sliders, moves)
                for row in rows[:12]:
                    self.assertEqual(row_with(times_table(table, row)), row_after(row, moves))

    def test_shape_and_common_divisor(self):
        for sliders in range(2, 9):
            for moves in ([], [(sliders - 1, 4, 9)], [(0, 1, 3), (1, 1, 3)], long_moves(sliders, 40, 31)):
                table = table_of(sliders, moves)
                self.assertIs(type(table), list)
                self.assertEqual([(type(part), len(part)) for part in table], [(list, sliders)] * sliders)
                numbers = [number for part in table for number in part]
                self.assertEqual({type(number) for number in numbers}, {int})
                self.assertGreaterEqual(min(numbers), 0)
                self.assertEqual(gcd(*numbers), 1)

    def test_only_the_forgotten_slider_has_no_number(self):
        for sliders in (2, 3, 8):
            for moves in [[(1, 1, 2)], T, T[::-1], long_moves(sliders, 40, 4)]:
                table = table_of(sliders, moves)
                for slider in range(sliders):
                    empty = all(numbers[slider] == 0 for numbers in table)
                    self.assertEqual(empty, slider == moves[0][0])


class DoSame(unittest.TestCase):
    def same_on_samples(self, sliders, moves, other_moves):
        return all(row_after(row, moves) == row_after(row, other_moves) for row in SAMPLES[sliders])

    def test_exactly_lists_that_lead_each_row_to_the_same_row(self):
        for sliders in (2, 3):
            lists = short_lists(sliders)[:60] + short_lists(sliders)[-25:]
            for moves, other_moves in combinations(lists, 2):
                expected = self.same_on_samples(sliders, moves, other_moves)
                self.assertIs(do_same(sliders, moves, other_moves), expected, (sliders, moves, other_moves))
                self.assertIs(do_same(sliders, other_moves, moves), expected)

    def test_merged_lists_do_the_same(self):
        for sliders in range(2, 9):
            for moves in ([], [(0, 1, 2)] * 40, [(0, 1, 2), (0, 1, 3), (1, 1, 3)], long_moves(sliders, 40, 31)):
                self.assertIs(do_same(sliders, moves, merged(moves)), True)
                self.assertIs(do_same(sliders, moves, list(moves)), True)

    def test_two_sliders_settle_by_any_row(self):
        self.assertIs(do_same(2, [(0, 1, 3)], [(1, 2, 3)]), True)
        self.assertIs(do_same(2, [(0, 1, 3)], [(1, 1, 3)]), False)
        self.assertIs(do_same(2, [(0, 1, 2), (1, 2, 3)], [(0, 1, 3)]), True)

    def test_an_empty_list_and_another_one_never_do_the_same(self):
        for sliders in range(2, 9):
            self.assertIs(do_same(sliders, [], []), True)
            for moves in ([(0, 1, 2)], [(0, 1, sliders)], [(1, 2, 3), (0, 1, 3)], long_moves(sliders, 40, 2)):
                self.assertIs(do_same(sliders, [], moves), False)
                self.assertIs(do_same(sliders, moves, []), False)

    def test_three_sliders_begin_alike_and_end_alike(self):
        lists = short_lists(3)[1:]
        found = 0
        for moves, other_moves in combinations(lists[:80] + lists[-40:], 2):
            if do_same(3, moves, other_moves):
                found += 1
                self.assertEqual(moves[0][0], other_moves[0][0])
                self.assertEqual(moves[-1], other_moves[-1])
        self.assertGreater(found, 10)

    def test_different_numbers_of_sliders(self):
        moves, other_moves = [(0, 1, 3)], [(1, 2, 3)]
        self.assertEqual([do_same(sliders, moves, other_moves) for sliders in (2, 3, 8)], [True, False, False])

    def test_large_numbers(self):
        one, other = [(0, BIG, BIGGER), (1, 1, 3)], [(0, BIG - 2, BIGGER), (1, 1, 3)]
        self.assertIs(do_same(3, one, [(0, 1, 2)] + one), True)
        self.assertIs(do_same(3, one, other), False)


class PartingRow(unittest.TestCase):
    def check(self, sliders, moves, other_moves):
        row = parting_row(sliders, moves, other_moves)
        if do_same(sliders, moves, other_moves):
            self.assertIsNone(row)
            return
        self.assertIs(is_row(row), True, (sliders, moves, other_moves))
        self.assertEqual(len(row), sliders)
        self.assertNotEqual(row_after(row, moves), row_after(row, other_moves))
        self.assertIs(is_parting(moves, other_moves, row), True)

    def test_short_lists(self):
        for sliders in (2, 3):
            for moves, other_moves in product(short_lists(sliders)[:70], short_lists(sliders)[::3]):
                self.check(sliders, moves, other_moves)

    def test_an_empty_list_and_one_move(self):
        for sliders in range(2, 9):
            for move in all_moves(sliders, sliders + 2):
                self.check(sliders, [], [move])
                self.check(sliders, [move], [])
            self.assertIsNone(parting_row(sliders, [], []))

    def test_lists_that_agree_on_even_rows(self):
        for sliders in range(2, 9):
            back = [(slider, 1, sliders) for slider in range(sliders)]
            for moves in (back, back[::-1], back[:1], back[1:] + back[:1]):
                self.check(sliders, moves, [])
                self.check(sliders, moves, back)
                self.check(sliders, moves, back * 2)

    def test_two_sliders_and_a_list_that_leads_to_one_of_the_first_rows(self):
        for moves in ([(0, 1, 2)], [(0, 1, 3)], [(0, 2, 3)], [(1, 1, 3)], [(0, 1, 4)]):
            self.check(2, moves, [])
            self.check(2, [], moves)

    def test_long_lists(self):
        for sliders in range(2, 9):
            moves = long_moves(sliders, 40, 31)
            self.check(sliders, moves, moves[1:])
            self.check(sliders, moves, moves[:-1])
            self.check(sliders, moves, merged(moves))
            self.check(sliders, moves, [])


class IsParting(unittest.TestCase):
    def test_rows(self):
        for row in SAMPLES[3]:
            expected = row_after(row, T) != row_after(row, T[::-1])
            self.assertIs(is_parting(T, T[::-1], row), expected)
            self.assertIs(is_parting(T, [], row), row_after(row, T) != row)
            self.assertIs(is_parting(T, T, row), False)

    def test_both_answers_occur(self):
        self.assertIs(is_parting([(0, 1, 2)], [], [2, 1, 1]), False)
        self.assertIs(is_parting([(0, 1, 2)], [], [3, 1, 1]), True)
        self.assertIs(is_parting([(0, 1, 3)], [(1, 2, 3)], [1, 1]), False)
        self.assertIs(is_parting([(0, 1, 3)], [(1, 2, 3)], [1, 1, 1]), True)

    def test_any_other_value(self):
        for value in NOT_ROWS + [int, T, [T], "row", [[1, 1, 1]]]:
            self.assertIs(is_parting(T, T[::-1], value), False, value)
            self.assertIs(is_parting([], [(7, 1, 2)], value), False, value)

    def test_a_row_without_a_slider_of_either_list(self):
        for sliders in range(2, 9):
            for slider in range(8):
                there = slider < sliders
                row = [50] + [1] * (sliders - 1)
                self.assertIs(is_parting([(slider, 3, 4)], [], row), there)
                self.assertIs(is_parting([], [(slider, 3, 4)], row), there)
                self.assertIs(is_parting([(0, 1, 2), (slider, 3, 4)], [(1, 1, 2)], row), there)

    def test_larger_rows(self):
        row = row_after(A, long_moves(3, 40, 31))
        self.assertIs(is_parting(T, [], row), True)
        self.assertIs(is_parting(T, [], [weight * 3 for weight in row]), False)


class Forgotten(unittest.TestCase):
    def test_first_slider(self):
        self.assertIsNone(forgotten([]))
        self.assertEqual([forgotten([(slider, 1, 2)] + T) for slider in range(8)], list(range(8)))
        self.assertEqual(forgotten(long_moves(8, 40, 31)), 0)

    def test_forgotten_slider_may_stand_anywhere(self):
        for moves in short_lists(3)[1:]:
            slider = forgotten(moves)
            row = [4, 3, 2]
            for weight in (1, 2, 5, BIG):
                other = list(row)
                other[slider] = weight
                self.assertEqual(row_after(row_with(other), moves), row_after(row, moves))


class AreAlike(unittest.TestCase):
    def test_exactly_rows_that_lead_to_the_same_row(self):
        for sliders, rows in ((2, all_rows(2, 4)), (3, all_rows(3, 3))):
            for moves in short_lists(sliders)[:40]:
                for row, other_row in product(rows, repeat=2):
                    expected = row_after(row, moves) == row_after(other_row, moves)
                    self.assertIs(are_alike(row, other_row, moves), expected)

    def test_exactly_rows_with_the_same_ratios_of_all_others(self):
        for moves in ([(0, 1, 2)], T, T[::-1], [(2, 1, 5), (0, 1, 2), (2, 1, 3)], long_moves(3, 40, 31)):
            one, two = [slider for slider in range(3) if slider != moves[0][0]]
            for row, other_row in product(all_rows(3, 4), repeat=2):
                expected = row[one] * other_row[two] == row[two] * other_row[one]
                self.assertIs(are_alike(row, other_row, moves), expected)

    def test_no_moves_take_equal_rows(self):
        self.assertIs(are_alike([4, 3, 2], [4, 3, 2], []), True)
        self.assertIs(are_alike([4, 3, 2], [5, 3, 2], []), False)
        self.assertIs(are_alike([4, 3], [5, 3], []), False)

    def test_two_sliders_are_always_alike_behind_a_move(self):
        for row, other_row in product(all_rows(2, 5), repeat=2):
            self.assertIs(are_alike(row, other_row, [(1, 2, 7)]), True)

    def test_other_ratios_only_up_to_a_factor(self):
        self.assertIs(are_alike([7, 3, 2], [1, 6, 4], T), True)
        self.assertIs(are_alike([7, 3, 2], [7, 3, 4], T), False)

    def test_eight_sliders(self):
        row = [8, 7, 6, 5, 4, 3, 2, 1]
        self.assertIs(are_alike(row, [1] + row[1:], [(0, 1, 2)]), True)
        self.assertIs(are_alike(row, row[:7] + [2], [(0, 1, 2)]), False)
        self.assertIs(are_alike(row, row[:7] + [2], [(7, 1, 2), (0, 1, 2)]), True)

    def test_rows_that_the_package_returned(self):
        row = row_after([1, 2, 3], long_moves(3, 40, 31))
        other_row = row_with([row[0] * 3, row[1] * 2, row[2] * 2])
        self.assertIs(are_alike(row, other_row, T), True)
        self.assertIs(are_alike(row, other_row, T[::-1]), False)

    def test_wrong_number_of_sliders(self):
        self.assertEqual(raised_by(are_alike, [1, 1], A, []).__name__, "InvalidRowError")


if __name__ == "__main__":
    unittest.main()
