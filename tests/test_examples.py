"""The examples of the document, as they stand in it."""

import doctest
import unittest

EXAMPLES = {
    "[11] rows": """
>>> from sliders.rows import is_row, ratio_of, row_of, row_with, share_of, shares_of
>>> [is_row([4, 3, 2]), is_row([2, 4]), row_with([2, 4]), share_of([4, 3, 2], 1), ratio_of([4, 3, 2], 0, 2)]
[True, False, [1, 2], (1, 3), (2, 1)]
>>> [shares_of([4, 3, 2]), row_of([(1, 2), (2, 6), (1, 6)])]
[[(4, 9), (1, 3), (2, 9)], [3, 2, 1]]
""",
    "[12] moves": """
>>> from sliders.moves import is_move, merged, moved, row_after, walk_rows
>>> A, T = [1, 1, 1], [(0, 1, 2), (1, 1, 3)]
>>> [moved(A, (0, 1, 2)), row_after(A, T), list(walk_rows(A, T)), is_move((0, 2, 4)), merged([(0, 1, 2), (0, 1, 3), (1, 1, 3)])]
[[2, 1, 1], [4, 3, 2], [[1, 1, 1], [2, 1, 1], [4, 3, 2]], False, [(0, 1, 3), (1, 1, 3)]]
""",
    "[13] tables": """
>>> from sliders.tables import are_alike, do_same, forgotten, is_parting, parting_row, table_of
>>> A, T = [1, 1, 1], [(0, 1, 2), (1, 1, 3)]
>>> [table_of(3, T), forgotten(T), are_alike(A, [5, 1, 1], T), are_alike(A, [1, 2, 1], T)]
[[[0, 2, 2], [0, 1, 2], [0, 0, 2]], 0, True, False]
>>> [do_same(3, T, T[::-1]), is_parting(T, T[::-1], parting_row(3, T, T[::-1])), do_same(2, [(0, 1, 3)], [(1, 2, 3)])]
[False, True, True]
""",
}


class Examples(unittest.TestCase):
    def test_examples(self):
        for name, text in EXAMPLES.items():
            with self.subTest(name):
                test = doctest.DocTestParser().get_doctest(text, {}, name, None, 0)
                told = []
                result = doctest.DocTestRunner(verbose=False).run(test, out=told.append)
                self.assertGreater(result.attempted, 1)
                self.assertEqual(result.failed, 0, "".join(told))


if __name__ == "__main__":
    unittest.main()
