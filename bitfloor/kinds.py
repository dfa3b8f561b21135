"""What kind of thing a value is, and rows that are refused where their things do not fit."""

from bitfloor.errors import NoRow


def is_whole(thing):
    """True for a whole number; True and False are none."""
    return isinstance(thing, int) and not isinstance(thing, bool)


def is_below(thing, bound):
    """True for a whole number from 0 to below the bound."""
    return is_whole(thing) and 0 <= thing < bound


def is_listed(thing):
    """True for a list or a tuple, which are alike in papers."""
    return isinstance(thing, (list, tuple))


def is_pair(thing):
    """True for a list or a tuple of two things."""
    return is_listed(thing) and len(thing) == 2


def ask_values(row, wides):
    """Refuse a row that is not one value for each of the widths, each of its width."""
    if not is_listed(row) or len(row) != len(wides):
        raise NoRow("the row has another length")
    for value, wide in zip(row, wides):
        if not is_below(value, 1 << wide):
            raise NoRow("a value is not of its width")


def ask_bits(row, length):
    """Refuse a row that is not so many bits."""
    ask_values(row, [1] * length)
