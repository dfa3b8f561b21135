"""The row of bits of a pack with its places and ways."""

from bitfloor.floors import SIDE_PAIRS, box_wires, cells_of, pad_wires, pads_of
from bitfloor.signals import signals_of


def written_number(number, count):
    """A number in so many bits, the greatest first."""
    return "".join([str(number >> place & 1) for place in range(count - 1, -1, -1)])


def written_choice(wires, wire):
    """The choice of one of the wires, or of none."""
    return written_number(0 if wire is None else 1 + wires.index(wire), len(wires).bit_length())


def written_marks(things, marked):
    """A bit for each of the things, 1 where it is marked."""
    return "".join(["1" if thing in marked else "0" for thing in things])


def whole_table(block):
    """The sixteen bits of a block's table, which hear its own sources alone."""
    return "".join([str(block[1] >> number % (1 << len(block[0])) & 1) for number in range(16)])


class Marks:
    """What the ways ask of boxes and pads: the wires that each source drives, the joins, and each sink's wire."""

    def __init__(self, pack, ways):
        self.driven = {}
        self.joined = {}
        self.tapped = {}
        for signal, way in zip(signals_of(pack), ways):
            self.driven[signal[0]] = [tuple(wire) for wire in way[0]]
            for box, low, high, track in way[1]:
                self.joined[(tuple(box), track, low, high)] = True
            for sink, wire in zip(signal[1], way[2]):
                self.tapped[sink] = tuple(wire)


def joins_at(floor, box):
    """What can be joined at a box: by tracks and then by pairs of sides."""
    joins = []
    for track in range(floor.tracks):
        joins.extend([(box, track, low, high) for low, high in SIDE_PAIRS])
    return joins


def written_cell(pack, floor, marks, cell, number):
    """The bits of a cell that has the block with this number, or none."""
    wires = box_wires(floor, cell)
    table = "0" * 18
    if number is not None:
        block = pack.blocks[number]
        table = whole_table(block) + str(block[2]) + str(block[3])
    choices = [written_choice(wires, marks.tapped.get(("block", number, place))) for place in range(4)]
    driven = written_marks(wires, marks.driven.get(("block", number), []))
    return table + "".join(choices) + driven + written_marks(joins_at(floor, cell), marks.joined)


def written_pad(pack, floor, marks, pad):
    """The bits of a pad."""
    wires = pad_wires(floor, pad)
    driven = written_marks(wires, marks.driven.get(("in", pad), []))
    return driven + written_choice(wires, marks.tapped.get(("out", pad - pack.ins)))


def bits_row(pack, floor, places, ways):
    """The row of bits from which alone a board is played."""
    marks = Marks(pack, ways)
    blocks = dict([(tuple(cell), number) for number, cell in enumerate(places)])
    head = (floor.rows, floor.columns, floor.tracks, pack.ins, len(pack.outs))
    parts = [written_number(number, 8) for number in head]
    parts.extend([written_cell(pack, floor, marks, cell, blocks.get(cell)) for cell in cells_of(floor)])
    parts.extend([written_pad(pack, floor, marks, pad) for pad in range(len(pads_of(floor)))])
    return "".join(parts)
