import unittest
from itertools import product

from sliders.errors import FullError, InvalidMovesError, InvalidNumberError, InvalidRowError
from sliders.lists import MoveList
from sliders.moves import row_after
from sliders.origins import origin_of
from sliders.tables import do_same, table_of
from support import (
    A, ANY_VALUES, BIG, BIGGER, NOT_INTEGERS, NOT_MOVES_ALONE, NOT_NUMBERS_OF_SLIDERS, T, Odd, all_moves, all_rows,
    long_moves, raised_by,
)

MOVE = (0, 1, 2)


def lists_of(sliders):
    """The lists of up to two moves with small numbers, as objects."""
    moves = all_moves(sliders, 3)
    return [MoveList(sliders, *part) for many in range(3) for part in product(moves, repeat=many)]


def add(one, other):
    return one + other


def times(one, many):
    return one * many


class Creation(unittest.TestCase):
    def test_most(self):
        self.assertEqual(MoveList.MOST, 40)
        self.assertEqual(MoveList(3).MOST, 40)

    def test_number_of_moves(self):
        for many in (0, 1, 2, 39, 40):
            one = MoveList(8, *long_moves(8, many, 31))
            self.assertEqual([len(one), one.sliders, one.moves], [many, 8, long_moves(8, many, 31)])
        for many in (41, 42, 80):
            self.assertIs(raised_by(MoveList, 3, *[MOVE] * many), InvalidMovesError)

    def test_numbers_of_sliders(self):
        for sliders in range(2, 9):
            self.assertEqual(MoveList(sliders, (sliders - 1, 1, 2)).sliders, sliders)
            self.assertIs(raised_by(MoveList, sliders, MOVE, (sliders, 1, 2)), InvalidMovesError)
            self.assertEqual(MoveList(sliders=sliders).moves, [])

    def test_wrong_arguments(self):
        for sliders in NOT_NUMBERS_OF_SLIDERS:
            self.assertIs(raised_by(MoveList, sliders), InvalidNumberError)
            self.assertIs(raised_by(MoveList, sliders, None), InvalidNumberError)
            self.assertIs(raised_by(MoveList, sliders, MOVE, (0, 2, 4)), InvalidNumberError)
            self.assertIs(raised_by(MoveList, sliders, *[MOVE] * 41), InvalidNumberError)
        for move in NOT_MOVES_ALONE + [(3, 1, 2), (7, 1, 2)]:
            self.assertIs(raised_by(MoveList, 3, move), InvalidMovesError)
            self.assertIs(raised_by(MoveList, 3, MOVE, move), InvalidMovesError)
            self.assertIs(raised_by(MoveList, 3, move, MOVE), InvalidMovesError)

    def test_moves_passed_as_one_list_are_no_moves(self):
        self.assertIs(raised_by(MoveList, 3, T), InvalidMovesError)
        self.assertIs(raised_by(MoveList, 3, []), InvalidMovesError)


class Copies(unittest.TestCase):
    def test_a_changed_list_of_moves_changes_nothing(self):
        moves = list(T)
        one = MoveList(3, *moves)
        moves.clear()
        one.moves.append((2, 1, 2))
        one.moves.clear()
        self.assertEqual([one.moves, len(one), one(A)], [T, 2, [4, 3, 2]])
        self.assertIsNot(one.moves, one.moves)

    def test_a_changed_table_changes_nothing(self):
        one = MoveList(3, *T)
        table = one.table
        table[0][0] = 99
        table[1].clear()
        table.clear()
        self.assertEqual(one.table, [[0, 2, 2], [0, 1, 2], [0, 0, 2]])
        self.assertEqual(one, MoveList(3, *T))

    def test_sums_and_products_are_new_objects_that_share_nothing(self):
        one, other = MoveList(3, MOVE), MoveList(3)
        for made in (one + other, other + one, one * 1, one + one, one * 2):
            self.assertIsNot(made, one)
            made.moves.append((1, 1, 2))
            self.assertEqual([one.moves, other.moves], [[MOVE], []])

    def test_properties_cannot_be_set(self):
        for name in ("sliders", "moves", "table"):
            with self.assertRaises(AttributeError):
                setattr(MoveList(3), name, 2)

    def test_rows_stay_as_they_are(self):
        row = [4, 3, 2]
        one = MoveList(3, *T)
        one(row).clear()
        one.back(row).clear()
        MoveList(3)(row).clear()
        MoveList(3).back(row).clear()
        self.assertEqual(row, [4, 3, 2])


class Sums(unittest.TestCase):
    def test_the_moves_of_both_in_order(self):
        for sliders in (2, 3):
            for one, other in product(lists_of(sliders)[::5], repeat=2):
                both = one + other
                self.assertIs(type(both), MoveList)
                self.assertEqual([both.sliders, both.moves], [sliders, one.moves + other.moves])
                for row in all_rows(sliders, 3):
                    self.assertEqual(both(row), other(one(row)))

    def test_at_most_forty(self):
        for many, more in ((0, 40), (40, 0), (1, 39), (39, 1), (20, 20), (39, 0), (0, 0)):
            both = MoveList(3, *[MOVE] * many) + MoveList(3, *[(1, 1, 3)] * more)
            self.assertEqual(both.moves, [MOVE] * many + [(1, 1, 3)] * more)
        for many, more in ((1, 40), (40, 1), (40, 40), (20, 21), (39, 2)):
            one, other = MoveList(3, *[MOVE] * many), MoveList(3, *[(1, 1, 3)] * more)
            self.assertIs(raised_by(add, one, other), FullError)
            self.assertEqual([len(one), len(other)], [many, more])

    def test_other_values(self):
        one = MoveList(3, *T)
        for value in ANY_VALUES + [T, MOVE, [], MoveList]:
            self.assertIs(raised_by(add, one, value), InvalidMovesError)

    def test_another_number_of_sliders(self):
        for sliders, others in product(range(2, 9), repeat=2):
            expected = None if sliders == others else InvalidMovesError
            self.assertIs(raised_by(add, MoveList(sliders, MOVE), MoveList(others)), expected)
            full = MoveList(sliders, *[MOVE] * 40)
            expected = FullError if sliders == others else InvalidMovesError
            self.assertIs(raised_by(add, full, MoveList(others, MOVE)), expected)


class Products(unittest.TestCase):
    def test_the_moves_so_many_times(self):
        for many in range(21):
            made = MoveList(3, *T) * many
            self.assertIs(type(made), MoveList)
            self.assertEqual([made.sliders, made.moves, len(made)], [3, T * many, many * 2])

    def test_at_most_forty(self):
        for many, most in ((0, 40), (1, 40), (2, 20), (3, 13), (39, 1), (40, 1), (21, 1), (20, 2)):
            one = MoveList(3, *[MOVE] * many)
            self.assertEqual(len(one * most), many * most)
            for more in range(most + 1, 41):
                self.assertIs(raised_by(times, one, more), FullError)
            self.assertEqual(len(one), many)

    def test_zero_times(self):
        for one in (MoveList(2), MoveList(3, *T), MoveList(8, *[MOVE] * 40)):
            self.assertEqual([(one * 0).moves, (one * 0).sliders], [[], one.sliders])

    def test_wrong_numbers_ahead_of_too_many_moves(self):
        for one in (MoveList(3), MoveList(3, *T), MoveList(3, *[MOVE] * 40)):
            for many in NOT_INTEGERS + [-1, -40, 41, 42, BIG, -BIG, one]:
                self.assertIs(raised_by(times, one, many), InvalidNumberError)


class Calls(unittest.TestCase):
    def test_the_row_behind_the_moves(self):
        for sliders in (2, 3):
            for one, row in product(lists_of(sliders), all_rows(sliders, 3)):
                self.assertEqual(one(row), row_after(row, one.moves))

    def test_the_weights_in_all_starts(self):
        for sliders in (2, 3):
            for one, row in product(lists_of(sliders), all_rows(sliders, 3)):
                self.assertEqual(one.back(row), origin_of(row, one.moves))
        self.assertIsNone(MoveList(3, *T).back([2, 3, 4]))
        self.assertEqual(MoveList(3).back([2, 3, 4]), [2, 3, 4])

    def test_another_number_of_sliders(self):
        for sliders, others in product(range(2, 9), repeat=2):
            one = MoveList(sliders, (0, 1, others))
            expected = None if sliders == others else InvalidRowError
            self.assertIs(raised_by(one, [1] * others), expected)
            self.assertIs(raised_by(one.back, [1] * others), expected)

    def test_table(self):
        for sliders in (2, 3):
            for one in lists_of(sliders):
                self.assertEqual(one.table, table_of(sliders, one.moves))
        self.assertEqual(MoveList(2).table, [[1, 0], [0, 1]])
        self.assertEqual(MoveList(8, *long_moves(8, 40, 31)).table, table_of(8, long_moves(8, 40, 31)))


class Equality(unittest.TestCase):
    def check(self, one, other, expected):
        self.assertIs(one == other, expected)
        self.assertIs(other == one, expected)
        self.assertIs(one != other, not expected)
        self.assertIs(other != one, not expected)

    def test_exactly_lists_that_do_the_same(self):
        for sliders in (2, 3):
            lists = lists_of(sliders)
            equal = 0
            for one, other in product(lists[::2], lists[::3]):
                expected = do_same(sliders, one.moves, other.moves)
                equal += expected
                self.check(one, other, expected)
            self.assertGreater(equal, len(lists) // 6)

    def test_order_matters_and_needless_moves_do_not(self):
        one, other = MoveList(3, MOVE), MoveList(3, (1, 1, 3))
        self.check(one + other, other + one, False)
        self.check(one + one, one, True)
        self.check(MoveList(3, (0, 1, 5), MOVE, (1, 1, 3)), one + other, True)
        self.check(MoveList(3, *long_moves(3, 40, 31)), MoveList(3, *long_moves(3, 40, 31)), True)
        self.check(MoveList(3, *long_moves(3, 40, 31)), MoveList(3, *long_moves(3, 39, 31)), False)
        self.check(MoveList(3, (0, BIG, BIGGER)), MoveList(3, (0, BIG - 2, BIGGER)), False)

    def test_two_sliders(self):
        self.check(MoveList(2, (0, 1, 3)), MoveList(2, (1, 2, 3)), True)
        self.check(MoveList(2, (0, 1, 3)), MoveList(2, (0, 1, 2), (1, 2, 3)), True)
        self.check(MoveList(2, (0, 1, 3)), MoveList(2, (1, 1, 3)), False)
        self.check(MoveList(2), MoveList(2), True)
        for one in lists_of(2)[1:] + [MoveList(2, *long_moves(2, 40, 31))]:
            self.check(one, MoveList(2), False)

    def test_another_number_of_sliders(self):
        for moves in ([], [MOVE], T[:1] * 2):
            for sliders, others in product(range(2, 9), repeat=2):
                self.check(MoveList(sliders, *moves), MoveList(others, *moves), sliders == others)

    def test_any_other_value(self):
        for one in (MoveList(3), MoveList(3, *T), MoveList(2, MOVE)):
            for value in ANY_VALUES + [one.moves, tuple(one.moves), one.table, one.sliders, len(one), MoveList]:
                if isinstance(value, Odd):
                    continue
                self.check(one, value, False)

    def test_a_value_that_equals_everything(self):
        self.assertIs(MoveList(3) == Odd(), False)
        self.assertIs(MoveList(3) != Odd(), True)


class Membership(unittest.TestCase):
    def test_moves(self):
        one = MoveList(3, *T)
        for move in all_moves(8, 5):
            self.assertIs(move in one, move in T)
            self.assertIs(move not in one, move not in T)
            self.assertIs(move in MoveList(3), False)
        moves = long_moves(8, 40, 31)
        for move in moves:
            self.assertIs(move in MoveList(8, *moves), True)
            self.assertIs(move in MoveList(8, *moves[1:]), move in moves[1:])

    def test_a_bool_in_place_of_an_integer(self):
        one = MoveList(3, MOVE, (1, 1, 3))
        for move in ((False, 1, 2), (0, True, 2), (True, 1, 3), (1, True, 3), (True, True, 3)):
            self.assertTrue(move in T)
            self.assertIs(move in one, False)

    def test_any_value(self):
        more = [T, [MOVE], (MOVE,), list(MOVE), (0, 2, 4), (0.0, 1, 2), (0, 1.0, 2), MoveList, MoveList(3)]
        for one in (MoveList(3), MoveList(3, *T), MoveList(8, *long_moves(8, 40, 2))):
            written = [repr(move) for move in one.moves]
            for value in ANY_VALUES + more:
                self.assertIs(value in one, repr(value) in written)


if __name__ == "__main__":
    unittest.main()
