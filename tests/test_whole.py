"""What holds over the whole program: the guarantees of [2], and what one part tells as others do."""

import unittest
from fractions import Fraction
from itertools import combinations, permutations, product

from sliders.boards import Board, LockedBoard, LockedStepBoard, StepBoard
from sliders.errors import LockedError, TooMuchError
from sliders.lists import MoveList
from sliders.logs import fewest_in, log_of, moves_of
from sliders.moves import merged, moved, row_after, walk_rows
from sliders.origins import is_start, origin_of, refused_at, start_with
from sliders.plans import count_plans, fewest_moves, is_plan, nth_plan, plan_rank, sliders_kept
from sliders.rounds import after_rounds, is_steady, limit_of
from sliders.rows import reduced, row_of, row_with, share_of, shares_of
from sliders.tables import are_alike, do_same, forgotten, is_parting, parting_row, table_of
from sliders.text import bars, format_moves, format_row, parse_moves, parse_row
from sliders.trials import Trial, passed, row_in_trial
from support import A, BIGGER, T, all_moves, all_rows, fractions_of, long_moves, raised_by, times_table


def boards_without_locks(row):
    return [Board(row), LockedBoard(row, []), StepBoard(row, 840), LockedStepBoard(row, [], 840)]


def short_lists(sliders, most_bottom, most):
    """The lists of up to so many moves with small numbers."""
    moves = all_moves(sliders, most_bottom)
    return [list(part) for many in range(most + 1) for part in product(moves, repeat=many)]


def same_ratios_without(row, other_row, slider):
    """Whether all sliders but this one have the same ratios in both rows."""
    at = [one for one in range(len(row)) if one != slider]
    return reduced([row[one] for one in at]) == reduced([other_row[one] for one in at])


def slid(board, moves):
    """The board behind the moves."""
    for move in moves:
        board.slide(*move)
    return board


class WhatIsForgotten(unittest.TestCase):
    """The first guarantee: a list forgets where the slider that is moved first stood, and nothing else."""

    def check(self, row, other_row, moves):
        expected = same_ratios_without(row, other_row, moves[0][0])
        self.assertIs(row_after(row, moves) == row_after(other_row, moves), expected)
        self.assertIs(are_alike(row, other_row, moves), expected)
        self.assertIs(is_start(row_after(row, moves), moves, other_row), expected)
        one = MoveList(len(row), *moves)
        self.assertIs(one(row) == one(other_row), expected)
        self.assertIs(slid(Board(row), moves).row == slid(Board(other_row), moves).row, expected)
        self.assertIs(row_in_trial(Board(row), moves) == row_in_trial(Board(other_row), moves), expected)
        return expected

    def test_short_lists(self):
        for sliders, most_weight in ((2, 3), (3, 2)):
            found = {True: 0, False: 0}
            for moves in short_lists(sliders, 3, 2)[1:]:
                for row, other_row in product(all_rows(sliders, most_weight), repeat=2):
                    found[self.check(row, other_row, moves)] += 1
            self.assertGreater(found[True], 100)
            # With two sliders there is only one other slider, so that nothing of the start is left.
            self.assertIs(found[False] > 100, sliders > 2)

    def test_however_long_it_is(self):
        for sliders in range(2, 9):
            row = [3 + at * at for at in range(sliders)]
            for many in (1, 2, 10, 40):
                moves = long_moves(sliders, many, 31)
                for slider in range(sliders):
                    other_row = list(row)
                    other_row[slider] += 1
                    alike = self.check(row, reduced(other_row), moves)
                    self.assertIs(alike, sliders == 2 or slider == forgotten(moves))

    def test_rounds_forget_it_too(self):
        for moves in ([(0, 1, 2)], T, [(1, 2, 5), (2, 1, 5)]):
            for row, other_row in product(all_rows(3, 3), repeat=2):
                expected = same_ratios_without(row, other_row, moves[0][0])
                for times in (1, 3):
                    self.assertIs(after_rounds(row, moves, times) == after_rounds(other_row, moves, times), expected)

    def test_no_move_forgets_nothing(self):
        for row, other_row in product(all_rows(3, 2), repeat=2):
            self.assertIs(are_alike(row, other_row, []), row == other_row)
            self.assertIs(row_in_trial(Board(row), []) == row_in_trial(Board(other_row), []), row == other_row)


class ListsThatDoTheSame(unittest.TestCase):
    """The second guarantee: such lists begin with the same slider, and end with the same slider at the same share."""

    def test_beginning_and_end(self):
        lists = short_lists(3, 3, 2) + [list(part) for part in product(all_moves(3, 2), repeat=3)]
        same = 0
        for one, other in product(lists, repeat=2):
            if do_same(3, one, other):
                self.assertEqual(forgotten(one), forgotten(other))
                self.assertEqual(one[-1:], other[-1:])
                self.assertEqual(merged(one)[-1:], merged(other)[-1:])
                self.assertTrue(MoveList(3, *one) == MoveList(3, *other))
                same += one != other
        self.assertGreater(same, 100)

    def test_with_two_sliders_they_may_differ(self):
        self.assertTrue(do_same(2, [(0, 1, 3)], [(1, 2, 3)]))

    def test_lists_that_do_the_same_and_boards(self):
        lists = short_lists(3, 3, 2)[::3]
        for one, other in product(lists, repeat=2):
            row = parting_row(3, one, other)
            if row is None:
                for start in ([1, 1, 1], [5, 3, 2]):
                    self.assertEqual(slid(Board(start), one).row, slid(Board(start), other).row)
                self.assertEqual(MoveList(3, *one).table, MoveList(3, *other).table)
            else:
                self.assertNotEqual(slid(Board(row), one).row, slid(Board(row), other).row)
                self.assertTrue(is_parting(one, other, row))
                self.assertFalse(MoveList(3, *one) == MoveList(3, *other))


class FromRowToRow(unittest.TestCase):
    """The third guarantee: from each row to each other one, without a slider twice, in any order."""

    def test_plans(self):
        for sliders, most_weight in ((2, 4), (3, 2), (4, 2)):
            for row, other_row in product(all_rows(sliders, most_weight), repeat=2):
                quotients = [Fraction(other, weight) for weight, other in zip(row, other_row)]
                fewest = sliders - max(quotients.count(quotient) for quotient in quotients)
                self.assertEqual(fewest_moves(row, other_row), fewest)
                orders = set()
                for index in range(count_plans(row, other_row)):
                    plan = nth_plan(row, other_row, index)
                    orders.add(tuple(move[0] for move in plan))
                    self.assertEqual([len(plan), len({move[0] for move in plan})], [fewest, fewest])
                    self.assertEqual(slid(Board(row), plan).row, other_row)
                    self.assertEqual(MoveList(sliders, *plan)(row), other_row)
                    self.assertTrue(is_plan(row, other_row, slid(Board(row), plan).done))
                    self.assertEqual(plan_rank(row, plan), index)
                expected = set()
                for kept in sliders_kept(row, other_row):
                    expected |= set(permutations([at for at in range(sliders) if at not in kept]))
                self.assertEqual(orders, expected)

    def test_fewer_moves_do_not_lead_there(self):
        for row, other_row in product(all_rows(3, 2), repeat=2):
            fewest = fewest_moves(row, other_row)
            # A single move that leads there sets the share that its slider has there.
            single = any(moved(row, (at, *share_of(other_row, at))) == other_row for at in range(3))
            self.assertEqual(fewest, 0 if row == other_row else 1 if single else 2)

    def test_any_order_of_all_sliders_but_one(self):
        for row, other_row in (([1, 1, 1], [4, 3, 2]), ([1, 2, 3, 4], [9, 2, 5, 7]), ([BIGGER, 1, 7], [3, 8, BIGGER])):
            for order in permutations(range(len(row)), len(row) - 1):
                kept = next(slider for slider in range(len(row)) if slider not in order)
                board = Board(row)
                for slider in order:
                    # Each move spoils the shares that were set before: they are set for what comes behind them.
                    factor = Fraction(other_row[kept], board.row[kept])
                    weights = [weight * factor for weight in board.row]
                    weights[slider] = Fraction(other_row[slider])
                    share = weights[slider] / sum(weights)
                    board.slide(slider, share.numerator, share.denominator)
                self.assertEqual(board.row, other_row)
                self.assertEqual([move[0] for move in board.done], list(order))
                if fewest_moves(row, other_row) == len(order):
                    self.assertTrue(is_plan(row, other_row, board.done))


class Together(unittest.TestCase):
    """What one part tells is what the others tell."""

    CASES = [(row, moves) for row in ([1, 2], [1, 1, 1], [4, 3, 2]) for moves in short_lists(len(row), 3, 2)]

    def test_boards_without_locks(self):
        for row, moves in self.CASES:
            sliders = len(row)
            walk = list(walk_rows(row, moves))
            for board in boards_without_locks(row):
                self.assertEqual(board.tried(*moves), walk[-1])
                self.assertEqual(row_in_trial(board, moves), walk[-1])
                self.assertEqual(passed(board, moves), len(moves))
                self.assertEqual([row] + [board.slide(*move) for move in moves], walk)
                self.assertEqual([board.row, board.done, len(board)], [row_after(row, moves), moves, len(moves)])
                one = MoveList(sliders, *board.done)
                self.assertEqual([one(row), len(one)], [board.row, len(board)])
                self.assertEqual(reduced(times_table(one.table, row)), board.row)
                self.assertEqual([board.shows(slider) for slider in range(sliders)], shares_of(board.row))
                self.assertEqual(row_of([board.shows(slider) for slider in range(sliders)]), board.row)
                if sliders > 2:
                    self.assertEqual(log_of(row, board.done), walk)

    def test_undo_walks_back(self):
        for row, moves in self.CASES:
            walk = list(walk_rows(row, moves))
            for board in boards_without_locks(row):
                slid(board, moves)
                shown = [board.row]
                while len(board) > 0:
                    board.undo()
                    shown.append(board.row)
                self.assertEqual(shown, walk[::-1])

    def test_logs_of_boards(self):
        for sliders in range(3, 9):
            row = list(range(1, sliders + 1))
            board = Board(row)
            log = [row] + [board.slide(*move) for move in long_moves(sliders, 40, 31)]
            self.assertEqual(moves_of(log), board.done)
            self.assertEqual(log, log_of(row, board.done))
            self.assertEqual(fewest_in(log), 40)
            self.assertEqual(log[-1], MoveList(sliders, *moves_of(log))(row))
            log.append(board.tried())
            self.assertEqual(moves_of(log[1:]), board.done[1:] + [None])

    def test_origins_of_boards(self):
        for row, moves in self.CASES:
            board = slid(Board(row), moves)
            self.assertIsNone(refused_at(board.row, board.done))
            self.assertTrue(is_start(board.row, board.done, board.first_row))
            weights = origin_of(board.row, board.done)
            self.assertEqual(weights, MoveList(len(row), *moves).back(board.row))
            if moves == []:
                self.assertEqual(weights, row)
                continue
            slider = forgotten(board.done)
            self.assertEqual(weights[slider], None)
            rest = [weight for at, weight in enumerate(row) if at != slider]
            self.assertEqual([weight for weight in weights if weight is not None], reduced(rest))
            self.assertEqual(start_with(board.row, board.done, *share_of(row, slider)), row)
            other = slid(Board(start_with(board.row, board.done, 3, 7)), moves)
            self.assertEqual([other.row, other.done], [board.row, board.done])
            self.assertIs(other == board, other.first_row == row)

    def test_rounds(self):
        for row in ([4, 3, 2], [1, 1, 5, 2]):
            for moves in ([(0, 1, 2)], T, [(2, 1, 5), (0, 3, 5)]):
                one = MoveList(len(row), *moves)
                board = Board(row)
                for times in range(13):
                    behind = after_rounds(row, moves, times)
                    self.assertEqual([behind, board.row], [(one * times)(row), behind])
                    self.assertEqual(behind, reduced(times_table((one * times).table, row)))
                    self.assertEqual(behind, row_in_trial(Board(row), moves * times))
                    slid(board, moves)
                limit = limit_of(row, moves)
                self.assertTrue(is_steady(limit, moves))
                self.assertEqual([one(limit), slid(Board(limit), moves).row], [limit, limit])
                self.assertEqual([share_of(limit, move[0]) for move in moves], [move[1:] for move in moves])

    def test_locked_boards_and_limits(self):
        found = {None: 0, TooMuchError: 0}
        for row in [[1, 1, 2], [4, 3, 2, 1], [5, 1, 1, 3, 2]]:
            for many in range(1, len(row) - 1):
                for locked in combinations(range(len(row)), many):
                    board = LockedBoard(row, list(locked))
                    held = [(slider, *board.shows(slider)) for slider in locked]
                    for move in all_moves(len(row), 7):
                        if move[0] in locked:
                            self.assertIs(raised_by(board.slide, *move), LockedError)
                            continue
                        if len(board) == 40:
                            board.undo()
                        now = board.row
                        limit = limit_of(now, [move] + held)
                        self.assertEqual(limit, limit_of(now, held + [move]))
                        error = TooMuchError if limit is None else None
                        found[error] += 1
                        self.assertIs(raised_by(board.tried, move), error)
                        if limit is not None:
                            self.assertEqual([board.tried(move), board.slide(*move)], [limit, limit])
                            self.assertTrue(is_steady(limit, [move] + held))
        self.assertGreater(min(found.values()), 100)

    def test_locked_boards_come_near_by_rounds(self):
        row, move = [1, 1, 2], (0, 1, 3)
        board = LockedBoard(row, [2])
        near = fractions_of(after_rounds(row, [move, (2, *board.shows(2))], 12))
        for one, other in zip(near, fractions_of(board.slide(*move))):
            self.assertLess(abs(one - other), Fraction(1, 10 ** 4))

    def test_a_locked_board_is_read_by_plans(self):
        board = LockedBoard([4, 3, 2, 1], [1, 3])
        log = [board.row, board.slide(0, 1, 10), board.slide(2, 1, 5)]
        self.assertEqual(fewest_in(log), fewest_moves(*log[:2]) + fewest_moves(*log[1:]))
        plan = nth_plan(log[0], log[2], 0)
        self.assertEqual(slid(Board(log[0]), plan).row, board.row)

    def test_strings_that_are_read_back(self):
        for row, moves in self.CASES:
            board = Board(row)
            slid(board, moves)
            again = Board(parse_row(format_row(board.first_row)))
            slid(again, parse_moves(format_moves(board.done)))
            self.assertTrue(again == board)
            self.assertEqual(format_row(again.row), format_row(board.row))
            self.assertEqual(format_moves(again.done), format_moves(moves))
            self.assertEqual(parse_row(format_row(board.row)), row_after(row, moves))
            self.assertEqual(bars(again.row, 10), bars(board.row, 10))

    def test_trials_within_all_kinds(self):
        for row, moves in self.CASES:
            for board in boards_without_locks(row):
                with Trial(board) as held:
                    slid(held, moves)
                    self.assertEqual(held.row, MoveList(len(row), *moves)(row))
                    twin = held.twin()
                self.assertEqual([board.row, board.done], [row, []])
                self.assertEqual([twin.row, twin.done], [row_after(row, moves), moves])
                self.assertIs(board == twin, moves == [])

    def test_results_are_passed_on(self):
        board = slid(LockedBoard([1, 1, 2], []), T)
        self.assertEqual(row_with(board.row), board.row)
        self.assertEqual(LockedBoard(board.row, [forgotten(board.done)]).described(), ["sliders 3", "locked 1"])
        self.assertTrue(do_same(3, board.done, MoveList(3, *T).moves))
        self.assertEqual(table_of(3, board.done), MoveList(3, *T).table)
        self.assertEqual(row_in_trial(Board(A), parse_moves("0=1/2 1=1/3")), after_rounds(A, board.done, 1))


if __name__ == "__main__":
    unittest.main()
