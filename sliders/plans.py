"""Plans: the shortest lists of moves from one row to another."""

from math import factorial

from sliders.errors import InvalidNumberError, NotShortestError
from sliders.moves import are_there, check_moves, is_moves, row_behind
from sliders.rows import check_row, check_row_of, is_whole, lowest_terms


def fewest_moves(row, other_row):
    """Return the number of moves of a plan from one row to another."""
    check_rows(row, other_row)
    return plan_length(row, other_row)


def count_plans(row, other_row):
    """Return the number of the plans from one row to another."""
    check_rows(row, other_row)
    return number_of_plans(row, other_row)


def nth_plan(row, other_row, index):
    """Return the plan with this index, in list order."""
    check_rows(row, other_row)
    if not is_whole(index) or not 0 <= index < number_of_plans(row, other_row):
        raise InvalidNumberError("there is no plan with this index")
    if row == other_row:
        return []
    plans_each = factorial(plan_length(row, other_row) - 1)
    first, kept = first_moves(row, other_row)[index // plans_each]
    left = [slider for slider in range(len(row)) if slider not in kept and slider != first[0]]
    return moves_in_order(row, other_row, kept, [first[0]] + nth_order(left, index % plans_each))


def plan_rank(row, moves):
    """Return the index of moves among the plans to the row behind them."""
    check_row(row)
    check_moves(moves, len(row))
    behind = row_behind(row, moves)
    if len(moves) != plan_length(row, behind):
        raise NotShortestError("fewer moves lead to the same row")
    if len(moves) == 0:
        return 0
    firsts = [first for first, _ in first_moves(row, behind)]
    order = [move[0] for move in moves[1:]]
    return firsts.index(moves[0]) * factorial(len(order)) + order_rank(order)


def is_plan(row, other_row, value):
    """Return whether any value is a plan from one row to another."""
    check_rows(row, other_row)
    if not is_moves(value) or not are_there(value, len(row)):
        return False
    return len(value) == plan_length(row, other_row) and row_behind(row, value) == other_row


def sliders_kept(row, other_row):
    """Return the lists of sliders that some plan does not move."""
    check_rows(row, other_row)
    return largest_groups(row, other_row)


def check_rows(row, other_row):
    """Raise InvalidRowError unless these are two rows with equally many sliders."""
    check_row(row)
    check_row_of(other_row, len(row))


def plan_length(row, other_row):
    """Return the number of moves of a plan between two rows that are known to fit."""
    return len(row) - len(largest_groups(row, other_row)[0])


def number_of_plans(row, other_row):
    """Return the number of the plans between two rows that are known to fit."""
    # Whichever group is kept, each order of all other sliders is a plan of its own.
    return len(largest_groups(row, other_row)) * factorial(plan_length(row, other_row))


def largest_groups(row, other_row):
    """Return the largest lists of sliders with the same quotient of wanted and present weight.

    A list of moves keeps the ratios of the sliders that it does not move, so that
    these have the same quotient. All others can be moved once each, in any order.
    """
    groups = {}
    for slider, weight in enumerate(row):
        groups.setdefault(lowest_terms(other_row[slider], weight), []).append(slider)
    most = max([len(group) for group in groups.values()])
    return [group for group in groups.values() if len(group) == most]


def first_moves(row, other_row):
    """Return the first moves of the plans in order, each in a tuple with the sliders that its plans keep.

    Two of them differ, also if they move the same slider: what the plans keep
    settles the weight. So the first move and the order of all sliders that are
    moved behind it settle a plan, and its place among the plans.
    """
    firsts = []
    for kept in largest_groups(row, other_row):
        for slider in range(len(row)):
            if slider not in kept:
                firsts.append((moves_in_order(row, other_row, kept, [slider])[0], kept))
    return sorted(firsts)


def moves_in_order(row, other_row, kept, order):
    """Return the moves that set the sliders to their wanted weights in this order."""
    sample = kept[0]
    # Scaled like this, both rows have the same weights for the sliders that are kept.
    weights = [weight * other_row[sample] for weight in row]
    wanted = [weight * row[sample] for weight in other_row]
    moves = []
    for slider in order:
        weights[slider] = wanted[slider]
        top, bottom = lowest_terms(wanted[slider], sum(weights))
        moves.append((slider, top, bottom))
    return moves


def nth_order(ascending, index):
    """Return the order with this index among all orders of some ascending sliders."""
    left = list(ascending)
    rest = index
    order = []
    while len(left) > 0:
        at, rest = divmod(rest, factorial(len(left) - 1))
        order.append(left.pop(at))
    return order


def order_rank(order):
    """Return the index of an order among all orders of its sliders."""
    rank = 0
    for at, slider in enumerate(order):
        later = order[at + 1:]
        rank += len([other for other in later if other < slider]) * factorial(len(later))
    return rank
