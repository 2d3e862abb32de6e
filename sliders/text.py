"""Text: rows and moves as strings, and rows as bars."""

from sliders.errors import InvalidFormatError, InvalidNumberError
from sliders.moves import check_moves, is_moves
from sliders.rows import MOST_SLIDERS, check_row, is_row, is_whole

MOST_DIGITS = 31
FEWEST_SIGNS = 1
MOST_SIGNS = 100


def format_row(row):
    """Return the string of a row."""
    check_row(row)
    return ":".join([str(weight) for weight in row])


def format_moves(moves):
    """Return the string of moves."""
    check_moves(moves, MOST_SLIDERS)
    return " ".join([f"{slider}={top}/{bottom}" for slider, top, bottom in moves])


def parse_row(text):
    """Return the row of a string."""
    check_string(text)
    row = [number_of(word) for word in text.split(":")]
    if not is_row(row):
        raise InvalidFormatError("the text is no row")
    return row


def parse_moves(text):
    """Return the moves of a string."""
    check_string(text)
    if text == "":
        return []
    moves = [move_of(word) for word in text.split(" ")]
    if not is_moves(moves):
        raise InvalidFormatError("the text is no list of moves")
    return moves


def bars(row, width):
    """Return a bar for each slider, of so many signs."""
    check_row(row)
    if not is_whole(width) or not FEWEST_SIGNS <= width <= MOST_SIGNS:
        raise InvalidNumberError("the width is an integer from 1 to 100")
    whole = sum(row)
    return [bar(slider, weight * width // whole, width) for slider, weight in enumerate(row)]


def bar(slider, full, width):
    """Return the bar of a slider with so many full signs."""
    return str(slider) + " " + "#" * full + "." * (width - full)


def check_string(text):
    """Raise InvalidFormatError unless this is a string."""
    if not isinstance(text, str):
        raise InvalidFormatError("the text is no string")


def move_of(word):
    """Return the tuple that a word tells, a move or not."""
    slider, _, share = word.partition("=")
    top, _, bottom = share.partition("/")
    return (number_of(slider), number_of(top), number_of(bottom))


def number_of(word):
    """Return the number that a word tells."""
    if not is_number(word):
        raise InvalidFormatError("a number has 1 to 31 digits, without leading zeros and signs")
    return int(word)


def is_number(word):
    """Return whether a word is a number without leading zeros and signs, and not too long."""
    # Other scripts have digits of their own, which isdigit allows.
    if not word.isascii() or not word.isdigit() or len(word) > MOST_DIGITS:
        return False
    return word == "0" or not word.startswith("0")
