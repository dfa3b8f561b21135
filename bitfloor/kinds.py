"""What kind of thing a value is, and rows that are refused where their things do not fit."""

from bitfloor.errors import NoRow


def is_whole(thing):
    """True for a whole number; True and False are none."""
    return isinstance(thing, int) and not isinstance(thing, bool)


def is_below(thing, bound):
    """True for a whole number from 0 to below the bound."""
    return is_whole(thing) and 0 <= thing < bound


def is_listed(thing):
    """True for a list or a tuple, which are alike in papers."""
    return isinstance(thing, (list, tuple))


def is_pair(thing):
    """True for a list or a tuple of two things."""
    return is_listed(thing) and len(thing) == 2


def is_place(thing, counts):
    """True for a tuple of a word and a number below the count that the word has."""
    if not isinstance(thing, tuple) or len(thing) != 2 or not isinstance(thing[0], str):
        return False
    return thing[0] in counts and is_below(thing[1], counts[thing[0]])


def ask_length(row, length):
    """Refuse a row that has not so many things."""
    if not is_listed(row) or len(row) != length:
        raise NoRow("the row has another length")


def ask_values(row, wides):
    """Refuse a row that is not one value for each of the widths, each of its width."""
    ask_length(row, len(wides))
    for value, wide in zip(row, wides):
        if not is_below(value, 1 << wide):
            raise NoRow("a value is not of its width")


def ask_bits(row, length):
    """Refuse a row that is not so many bits."""
    ask_length(row, length)
    ask_values(row, [1] * len(row))
