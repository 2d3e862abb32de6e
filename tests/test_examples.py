"""The examples of the document, as they stand in it."""

import doctest
import unittest

EXAMPLES = {
    "[11] rows": """
>>> from sliders.rows import is_row, ratio_of, row_of, row_with, share_of, shares_of
>>> [is_row([4, 3, 2]), is_row([2, 4]), row_with([2, 4]), share_of([4, 3, 2], 1), ratio_of([4, 3, 2], 0, 2)]
[True, False, [1, 2], (1, 3), (2, 1)]
>>> [shares_of([4, 3, 2]), row_of([(1, 2), (2, 6), (1, 6)])]
[[(4, 9), (1, 3), (2, 9)], [3, 2, 1]]
""",
    "[12] moves": """
>>> from sliders.moves import is_move, merged, moved, row_after, walk_rows
>>> A, T = [1, 1, 1], [(0, 1, 2), (1, 1, 3)]
>>> [moved(A, (0, 1, 2)), row_after(A, T), list(walk_rows(A, T)), is_move((0, 2, 4)), merged([(0, 1, 2), (0, 1, 3), (1, 1, 3)])]
[[2, 1, 1], [4, 3, 2], [[1, 1, 1], [2, 1, 1], [4, 3, 2]], False, [(0, 1, 3), (1, 1, 3)]]
""",
    "[13] tables": """
>>> from sliders.tables import are_alike, do_same, forgotten, is_parting, parting_row, table_of
>>> A, T = [1, 1, 1], [(0, 1, 2), (1, 1, 3)]
>>> [table_of(3, T), forgotten(T), are_alike(A, [5, 1, 1], T), are_alike(A, [1, 2, 1], T)]
[[[0, 2, 2], [0, 1, 2], [0, 0, 2]], 0, True, False]
>>> [do_same(3, T, T[::-1]), is_parting(T, T[::-1], parting_row(3, T, T[::-1])), do_same(2, [(0, 1, 3)], [(1, 2, 3)])]
[False, True, True]
""",
    "[14] lists": """
>>> from sliders.lists import MoveList
>>> one, other = MoveList(3, (0, 1, 2)), MoveList(3, (1, 1, 3))
>>> [(one + other)([1, 1, 1]), one + one == one, one + other == other + one, len(other * 3), (one + other).back([4, 3, 2])]
[[4, 3, 2], True, False, 3, [None, 1, 1]]
""",
    "[17] origins": """
>>> from sliders.origins import is_start, origin_of, refused_at, start_with
>>> T = [(0, 1, 2), (1, 1, 3)]
>>> [origin_of([4, 3, 2], T), start_with([4, 3, 2], T, 5, 7), is_start([4, 3, 2], T, [9, 1, 1])]
[[None, 1, 1], [5, 1, 1], True]
>>> [origin_of([2, 3, 4], T), refused_at([2, 3, 4], T), refused_at([4, 3, 1], T), refused_at([4, 3, 2], T)]
[None, 0, 1, None]
""",
    "[18] plans": """
>>> from sliders.plans import count_plans, fewest_moves, is_plan, nth_plan, plan_rank, sliders_kept
>>> A, B = [1, 1, 1], [4, 3, 2]
>>> [fewest_moves(A, B), count_plans(A, B), nth_plan(A, B, 0), nth_plan(A, B, 2), sliders_kept(A, B)]
[2, 6, [(0, 1, 2), (1, 1, 3)], [(1, 3, 7), (0, 4, 9)], [[0], [1], [2]]]
>>> [plan_rank(A, [(2, 1, 5), (1, 1, 3)]), is_plan(A, B, [(0, 1, 2)]), fewest_moves([2, 1, 1], [6, 1, 1])]
[5, False, 1]
""",
    "[19] logs": """
>>> from sliders.logs import fewest_in, is_log, log_of, moves_of
>>> log = log_of([1, 1, 1], [(0, 1, 2), (1, 1, 3)])
>>> [log, moves_of(log), moves_of([[1, 1, 1], [1, 1, 1]]), fewest_in([[1, 1, 1], [4, 3, 2]]), is_log([[1, 2]])]
[[[1, 1, 1], [2, 1, 1], [4, 3, 2]], [(0, 1, 2), (1, 1, 3)], [None], 2, False]
""",
    "[20] rounds": """
>>> from sliders.rounds import after_rounds, is_steady, limit_of
>>> A, T = [1, 1, 1], [(0, 1, 2), (1, 1, 3)]
>>> [after_rounds(A, T, 1), after_rounds(A, T, 2), limit_of(A, T), is_steady([3, 2, 1], T), limit_of(A, [(0, 1, 2), (1, 1, 2)])]
[[4, 3, 2], [10, 7, 4], [3, 2, 1], True, None]
""",
    "[22] boards": """
>>> from sliders.boards import Board, LockedBoard, LockedStepBoard
>>> board, locked = Board([1, 1, 1]), LockedBoard([1, 1, 2], [2])
>>> [board.slide(0, 1, 2), board.slide(1, 1, 3), board.tried((2, 1, 2)), board.shows(1), board.undo(), board.row, board.done]
[[2, 1, 1], [4, 3, 2], [4, 3, 7], (1, 3), None, [2, 1, 1], [(0, 1, 2)]]
>>> [locked.slide(0, 1, 3), locked.shows(2), LockedStepBoard([1, 1, 2], [2], 100).described()]
[[2, 1, 3], (1, 2), ['sliders 3', 'locked 1', 'steps 100']]
""",
    "[23] trials": """
>>> from sliders.boards import Board, StepBoard
>>> from sliders.trials import Trial, passed, row_in_trial
>>> board = Board([1, 1, 1])
>>> trial = Trial(board)
>>> [trial.begin() == board, board.slide(0, 1, 2), trial.finish(), board.row]
[True, [2, 1, 1], [(0, 1, 2)], [1, 1, 1]]
>>> [row_in_trial(board, [(0, 1, 2), (1, 1, 3)]), passed(StepBoard([1, 1, 1], 10), [(0, 1, 2), (1, 1, 3)]), len(board)]
[[4, 3, 2], 1, 0]
""",
    "[24] text": """
>>> from sliders.text import bars, format_moves, format_row, parse_moves, parse_row
>>> [format_row([4, 3, 2]), parse_row("1:2"), format_moves([(0, 1, 2), (1, 1, 3)]), parse_moves("1=2/3")]
['4:3:2', [1, 2], '0=1/2 1=1/3', [(1, 2, 3)]]
>>> bars([4, 3, 2], 10)
['0 ####......', '1 ###.......', '2 ##........']
""",
}


class Examples(unittest.TestCase):
    def test_examples(self):
        for name, text in EXAMPLES.items():
            with self.subTest(name):
                test = doctest.DocTestParser().get_doctest(text, {}, name, None, 0)
                told = []
                result = doctest.DocTestRunner(verbose=False).run(test, out=told.append)
                self.assertGreater(result.attempted, 1)
                self.assertEqual(result.failed, 0, "".join(told))


if __name__ == "__main__":
    unittest.main()
