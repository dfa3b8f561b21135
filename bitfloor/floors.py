"""Floors of cells, their boxes, wires and pads."""

from bitfloor.errors import NoFloor, OutOfFloor
from bitfloor.kinds import is_below, is_listed, is_pair, is_whole

SIDE_PAIRS = ((0, 1), (0, 2), (0, 3), (1, 2), (1, 3), (2, 3))


class Floor:
    """So many rows and columns of cells, with so many tracks of wires between each two."""

    def __init__(self, rows, columns, tracks):
        for size, most in ((rows, 10), (columns, 10), (tracks, 8)):
            if not is_whole(size) or not 1 <= size <= most:
                raise NoFloor("there is no floor of this size")
        self.rows = rows
        self.columns = columns
        self.tracks = tracks


def is_box(floor, thing):
    """True for the row and column of a cell of the floor."""
    return is_pair(thing) and is_below(thing[0], floor.rows) and is_below(thing[1], floor.columns)


def is_wire(floor, thing):
    """True for a wire of the floor."""
    if not is_listed(thing) or len(thing) != 4 or not all([is_whole(number) for number in thing[1:]]):
        return False
    # wires that begin at the pads left of the rows and above the columns have -1 there
    low_row = -1 if thing[0] == "v" else 0
    low_column = -1 if thing[0] == "h" else 0
    if not low_row <= thing[1] < floor.rows or not low_column <= thing[2] < floor.columns:
        return False
    return thing[0] in ("h", "v") and is_below(thing[3], floor.tracks)


def side_wire(floor, box, side, track):
    """The wire of a track at a side of a box: 0 left, 1 right, 2 up, 3 down."""
    if not is_box(floor, box) or not is_below(side, 4) or not is_below(track, floor.tracks):
        raise OutOfFloor("there is no such box, side or track")
    if side == 0:
        return ("h", box[0], box[1] - 1, track)
    if side == 1:
        return ("h", box[0], box[1], track)
    if side == 2:
        return ("v", box[0] - 1, box[1], track)
    return ("v", box[0], box[1], track)


def cells_of(floor):
    """The list of all cells, row by row."""
    return [(number // floor.columns, number % floor.columns) for number in range(floor.rows * floor.columns)]


def box_wires(floor, box):
    """The list of the wires at a box, by sides and then by tracks."""
    return [side_wire(floor, box, number // floor.tracks, number % floor.tracks) for number in range(4 * floor.tracks)]


def pads_of(floor):
    """The list of the pads' spots: left of each row, above each column, right of each row, below each column."""
    spots = [(row, -1) for row in range(floor.rows)]
    spots.extend([(-1, column) for column in range(floor.columns)])
    spots.extend([(row, floor.columns) for row in range(floor.rows)])
    spots.extend([(floor.rows, column) for column in range(floor.columns)])
    return spots


def pad_wires(floor, pad):
    """The list of the wires that end at a pad, by tracks."""
    spots = pads_of(floor)
    if not is_below(pad, len(spots)):
        raise OutOfFloor("there is no such pad")
    row = spots[pad][0]
    column = spots[pad][1]
    word = "h" if is_below(row, floor.rows) else "v"
    # beyond the last row or column the wire begins at the box ahead of the pad
    if column == floor.columns:
        column = column - 1
    if row == floor.rows:
        row = row - 1
    return [(word, row, column, track) for track in range(floor.tracks)]


def wires_of(floor):
    """The list of all wires, rising."""
    wires = []
    for word, low_row, low_column in (("h", 0, -1), ("v", -1, 0)):
        for row in range(low_row, floor.rows):
            for column in range(low_column, floor.columns):
                wires.extend([(word, row, column, track) for track in range(floor.tracks)])
    return wires


def boxes_at(floor, wire):
    """The list of the boxes that a wire touches, in the order in which it runs."""
    if not is_wire(floor, wire):
        raise OutOfFloor("there is no such wire")
    row = wire[1]
    column = wire[2]
    ends = [(row, column), (row, column + 1) if wire[0] == "h" else (row + 1, column)]
    return [box for box in ends if is_box(floor, box)]
