"""What [3], [4] and [5] promise of every function: errors, copies, names of parameters."""

import inspect
import unittest
from copy import deepcopy
from itertools import product

from sliders import boards, lists, logs, moves, origins, plans, rounds, rows, tables, text, trials
from sliders.boards import Board
from sliders.errors import InvalidMovesError, InvalidRowError
from support import A, CALLS, CLASS_CALLS, METHOD_CALLS, MOVE_LIST, NOT_MOVES, T, answer, raised_by, state_of, walked

LISTED = {
    rows: ["is_row", "row_with", "share_of", "shares_of", "row_of", "ratio_of"],
    moves: ["is_move", "is_moves", "moved", "row_after", "walk_rows", "merged"],
    tables: ["table_of", "do_same", "parting_row", "is_parting", "forgotten", "are_alike"],
    origins: ["origin_of", "start_with", "refused_at", "is_start"],
    plans: ["fewest_moves", "count_plans", "nth_plan", "plan_rank", "is_plan", "sliders_kept"],
    logs: ["is_log", "moves_of", "fewest_in", "log_of"],
    rounds: ["after_rounds", "is_steady", "limit_of"],
    trials: ["row_in_trial", "passed"],
    text: ["format_row", "format_moves", "parse_row", "parse_moves", "bars"],
}
# For each class of the interface: its file, its methods, and its properties.
CLASSES = {
    lists.MoveList: (
        "sliders.lists",
        ["__init__", "__add__", "__mul__", "__eq__", "__contains__", "__len__", "__call__", "back"],
        ["sliders", "moves", "table"],
    ),
    boards.Board: (
        "sliders.boards",
        ["__init__", "slide", "tried", "undo", "shows", "twin", "described", "__len__", "__eq__"],
        ["first_row", "row", "done"],
    ),
    boards.LockedBoard: ("sliders.boards", ["__init__", "described"], []),
    boards.StepBoard: ("sliders.boards", ["__init__", "described"], []),
    boards.LockedStepBoard: ("sliders.boards", ["__init__", "described"], []),
    trials.Trial: ("sliders.trials", ["__init__", "__enter__", "__exit__", "begin", "finish"], []),
}
ALL_CALLS = CALLS + CLASS_CALLS + METHOD_CALLS


def lists_in(value):
    """All lists within a value, itself included."""
    if isinstance(value, list):
        yield value
    if isinstance(value, (list, tuple)):
        for item in value:
            yield from lists_in(item)


def comparable(result):
    """A result as a value that equals that of an equal call: trials do not compare."""
    return state_of(result.begin()) if isinstance(result, trials.Trial) else result


def shown(values):
    """Values as strings that tell whether they have changed."""
    return [repr(state_of(value)) if isinstance(value, Board) else repr(value) for value in values]


def goods(parameters):
    return [good for _, good, _, _ in parameters]


class Interface(unittest.TestCase):
    def test_each_function_is_defined_in_its_file(self):
        for module, names in LISTED.items():
            for name in names:
                with self.subTest(name):
                    function = getattr(module, name)
                    self.assertTrue(inspect.isfunction(function))
                    self.assertEqual(function.__module__, module.__name__)

    def test_each_method_is_defined_in_its_class(self):
        for own_class, (module, methods, properties) in CLASSES.items():
            self.assertEqual(own_class.__module__, module)
            own = vars(own_class)
            for name in methods:
                with self.subTest(own_class.__name__ + "." + name):
                    self.assertTrue(inspect.isfunction(own[name]))
            for name in properties:
                with self.subTest(own_class.__name__ + "." + name):
                    self.assertIsInstance(own[name], property)

    def test_parameter_names_of_the_methods_of_boards(self):
        self.assertEqual(list(inspect.signature(Board([1, 2]).slide).parameters), ["slider", "top", "bottom"])
        for name in ("undo", "twin", "described"):
            self.assertEqual(list(inspect.signature(getattr(Board([1, 2]), name)).parameters), [])
        for name in ("begin", "finish"):
            self.assertEqual(list(inspect.signature(getattr(trials.Trial(Board([1, 2])), name)).parameters), [])

    def test_each_listed_function_is_in_the_table_of_calls(self):
        called = {call.__name__ for call, _ in CALLS} - {"walked"} | {"walk_rows"}
        self.assertEqual(called, {name for names in LISTED.values() for name in names})

    def test_parameter_names(self):
        for call, parameters in ALL_CALLS:
            function = moves.walk_rows if call is walked else call
            with self.subTest(function.__name__):
                self.assertEqual(list(inspect.signature(function).parameters), [part[0] for part in parameters])

    def test_by_position_and_by_name(self):
        for call, parameters in ALL_CALLS:
            with self.subTest(call.__name__):
                expected = answer(call, goods(parameters))
                named = {name: deepcopy(good) for name, good, _, _ in reversed(parameters)}
                self.assertEqual(comparable(call(**named)), comparable(expected))
                for first in range(1, len(parameters)):
                    late = {name: deepcopy(good) for name, good, _, _ in parameters[first:]}
                    self.assertEqual(comparable(call(*goods(parameters)[:first], **late)), comparable(expected))


class Errors(unittest.TestCase):
    def test_good_arguments_raise_nothing(self):
        for call, parameters in ALL_CALLS:
            with self.subTest(call.__name__):
                self.assertIsNone(raised_by(call, *goods(parameters)))

    def test_each_wrong_argument_alone(self):
        for call, parameters in ALL_CALLS:
            for at, (name, _, error, wrongs) in enumerate(parameters):
                for wrong in wrongs:
                    values = goods(parameters)
                    values[at] = wrong
                    with self.subTest(call.__name__, name=name, wrong=wrong):
                        self.assertIs(raised_by(call, *values), error)

    def test_the_first_of_several_wrong_arguments_counts(self):
        for call, parameters in ALL_CALLS:
            for kinds in product(*[(False,) if part[2] is None else (False, True) for part in parameters]):
                if not any(kinds):
                    continue
                expected = next(part[2] for part, wrong in zip(parameters, kinds) if wrong)
                for turn in range(0, 40, 3):
                    values = [
                        part[3][(turn * (at + 1)) % len(part[3])] if wrong else part[1]
                        for at, (part, wrong) in enumerate(zip(parameters, kinds))
                    ]
                    with self.subTest(call.__name__, values=values):
                        self.assertIs(raised_by(call, *values), expected)

    def test_other_row_is_checked_ahead_of_moves_also_for_its_length(self):
        self.assertIs(raised_by(tables.are_alike, A, [1, 1], None), InvalidRowError)
        self.assertIs(raised_by(tables.are_alike, A, [1, 1], [(2, 1, 2)]), InvalidRowError)

    def test_two_sliders_check_both_lists_too(self):
        for call in (tables.do_same, tables.parting_row):
            for wrong in [[(2, 1, 2)], [(0, 1, 2), (7, 1, 2)]] + NOT_MOVES:
                with self.subTest(call.__name__, wrong=wrong):
                    self.assertIs(raised_by(call, 2, wrong, []), InvalidMovesError)
                    self.assertIs(raised_by(call, 2, [(0, 1, 2)], wrong), InvalidMovesError)

    def test_is_parting_checks_both_lists_also_for_values_that_are_no_rows(self):
        self.assertIs(raised_by(tables.is_parting, None, T, None), InvalidMovesError)
        self.assertIs(raised_by(tables.is_parting, T, None, None), InvalidMovesError)


class Copies(unittest.TestCase):
    def test_arguments_stay_as_they_are(self):
        for call, parameters in ALL_CALLS:
            for at, (name, _, _, wrongs) in enumerate(parameters):
                for value in [parameters[at][1]] + wrongs:
                    values = goods(parameters)
                    values[at] = value
                    before = deepcopy(values)
                    raised_by(call, *values)
                    with self.subTest(call.__name__, name=name, value=value):
                        self.assertEqual(shown(values), shown(before))

    def test_returned_lists_are_new(self):
        more = [
            (rows.row_with, [[1, 2]]), (rows.row_with, [[3, 6]]), (rows.shares_of, [[1, 2]]),
            (moves.row_after, [[1, 2], []]), (moves.row_after, [[2, 1, 1], [(0, 1, 2)]]),
            (moves.moved, [[2, 1, 1], (0, 1, 2)]), (moves.merged, [[]]), (moves.merged, [T]),
            (walked, [[1, 2], []]), (walked, [[2, 1, 1], [(0, 1, 2), (0, 1, 2)]]),
            (tables.table_of, [3, []]), (tables.parting_row, [2, [], [(0, 1, 2)]]),
            (origins.origin_of, [[1, 2], []]), (origins.origin_of, [[4, 3, 2], [(0, 4, 9)]]),
            (origins.start_with, [[2, 1, 1], [(0, 1, 2)], 1, 2]), (plans.nth_plan, [A, A, 0]),
            (plans.nth_plan, [A, [2, 1, 1], 0]), (plans.sliders_kept, [A, A]), (logs.moves_of, [[A]]),
            (logs.moves_of, [[A, A]]), (logs.log_of, [A, []]), (logs.log_of, [[2, 1, 1], [(0, 1, 2), (0, 1, 2)]]),
            (lists.MoveList(2), [[1, 2]]), (lists.MoveList(2).back, [[1, 2]]), (MOVE_LIST, [[4, 3, 2]]),
            (rounds.after_rounds, [A, T, 0]), (rounds.limit_of, [[3, 2, 1], T]),
            (rounds.after_rounds, [[3, 2, 1], T, 1]),
            (trials.row_in_trial, [Board(A), []]), (text.parse_moves, [""]), (text.parse_row, ["1:2"]),
            (Board(A).tried, []), (Board(A).tried, T), (Board(A).described, []),
        ]
        for call, values in more + [(call, goods(parameters)) for call, parameters in CALLS + METHOD_CALLS]:
            with self.subTest(str(call), values=values):
                expected = deepcopy(call(*values))
                result = call(*values)
                found = [id(part) for part in lists_in(result)]
                self.assertEqual(len(set(found)), len(found))
                self.assertFalse(set(found) & {id(part) for part in lists_in(values)})
                for part in list(lists_in(result)):
                    part.clear()
                self.assertEqual(call(*values), expected)


if __name__ == "__main__":
    unittest.main()
