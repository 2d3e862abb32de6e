"""Rows of weights, and the shares of their sliders."""

from math import gcd, lcm

from sliders.errors import InvalidRowError, InvalidSharesError, InvalidSliderError

FEWEST_SLIDERS = 2
MOST_SLIDERS = 8


def is_row(value):
    """Return whether any value is a row."""
    return are_weights(value) and common_divisor(value) == 1


def row_with(weights):
    """Return the row with the ratios of the weights."""
    if not are_weights(weights):
        raise InvalidRowError("weights are a list of 2 to 8 integers from 1 on")
    return reduced(weights)


def share_of(row, slider):
    """Return the share of a slider, a tuple (top, bottom) in lowest terms."""
    check_row(row)
    check_slider(row, slider)
    return lowest_terms(row[slider], sum(row))


def shares_of(row):
    """Return the list of the shares of all sliders."""
    check_row(row)
    whole = sum(row)
    return [lowest_terms(weight, whole) for weight in row]


def row_of(shares):
    """Return the row with these shares."""
    if not are_fractions(shares):
        raise InvalidSharesError("shares are a list of 2 to 8 tuples of two integers from 1 on")
    whole = common_multiple([bottom for _, bottom in shares])
    weights = [top * (whole // bottom) for top, bottom in shares]
    if sum(weights) != whole:
        raise InvalidSharesError("the shares do not add up to 1")
    return reduced(weights)


def ratio_of(row, slider, other):
    """Return the weight of a slider divided by that of another one, as a share is written."""
    check_row(row)
    check_slider(row, slider)
    check_slider(row, other)
    return lowest_terms(row[slider], row[other])


def is_whole(value):
    """Return whether any value is an integer; a bool is none."""
    return isinstance(value, int) and not isinstance(value, bool)


def has_slider_length(value):
    """Return whether any value is a list with as many items as a row may have."""
    return type(value) is list and FEWEST_SLIDERS <= len(value) <= MOST_SLIDERS


def are_weights(value):
    """Return whether any value is a list of weights, with a common divisor or not."""
    return has_slider_length(value) and all([is_whole(weight) and weight >= 1 for weight in value])


def are_fractions(value):
    """Return whether any value is a list of tuples (top, bottom), whatever they add up to."""
    return has_slider_length(value) and all([is_fraction(share) for share in value])


def is_fraction(value):
    """Return whether any value is a tuple of two integers from 1 on."""
    return type(value) is tuple and len(value) == 2 and all([is_whole(part) and part >= 1 for part in value])


def check_row(row):
    """Raise InvalidRowError unless this is a row."""
    if not is_row(row):
        raise InvalidRowError("a row is a list of 2 to 8 integers from 1 on without a common divisor")


def check_row_of(row, sliders):
    """Raise InvalidRowError unless this is a row of so many sliders."""
    check_row(row)
    if len(row) != sliders:
        raise InvalidRowError("the row has another number of sliders")


def check_slider(row, slider):
    """Raise InvalidSliderError unless this is a slider of the row."""
    if not is_whole(slider) or not 0 <= slider < len(row):
        raise InvalidSliderError("the row has no such slider")


def common_divisor(numbers):
    """Return the greatest common divisor of the numbers."""
    common = 0
    for number in numbers:
        common = gcd(common, number)
    return common


def common_multiple(numbers):
    """Return the least common multiple of the numbers."""
    multiple = 1
    for number in numbers:
        multiple = lcm(multiple, number)
    return multiple


def reduced(numbers):
    """Return a new list of the numbers divided by their greatest common divisor."""
    common = common_divisor(numbers)
    return [number // common for number in numbers]


def lowest_terms(top, bottom):
    """Return top / bottom as a tuple in lowest terms."""
    common = gcd(top, bottom)
    return (top // common, bottom // common)
