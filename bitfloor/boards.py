"""Boards: rows of bits read, and looked at for what a board may not have."""

from bitfloor.errors import NoBits, NoFloor
from bitfloor.floors import SIDE_PAIRS, Floor, box_wires, cells_of, pad_wires, pads_of, wires_of
from bitfloor.packs import SILENCE, has_ring

HEAD = 40


def number_of(bits):
    """The number that bits tell, the greatest first."""
    number = 0
    for bit in bits:
        number = 2 * number + (1 if bit == "1" else 0)
    return number


class BitReader:
    """Takes the bits of a row, first to last."""

    def __init__(self, bits, spot):
        self.bits = bits
        self.spot = spot

    def take(self, count):
        """So many bits."""
        self.spot += count
        return self.bits[self.spot - count:self.spot]

    def take_number(self, count):
        """The number that so many bits tell."""
        return number_of(self.take(count))


class RawCell:
    """The bits of one cell, not looked at yet."""

    def __init__(self, reader, tracks):
        # bit 0 comes first
        self.table = sum([(1 if bit == "1" else 0) << place for place, bit in enumerate(reader.take(16))])
        self.kept = reader.take_number(1)
        self.first = reader.take_number(1)
        self.choices = [reader.take_number((4 * tracks).bit_length()) for place in range(4)]
        self.drives = reader.take(4 * tracks)
        self.joins = [reader.take(len(SIDE_PAIRS)) for track in range(tracks)]


class RawPad:
    """The bits of one pad, not looked at yet."""

    def __init__(self, reader, tracks):
        self.drives = reader.take(tracks)
        self.choice = reader.take_number(tracks.bit_length())


def asked_length(rows, columns, tracks):
    """How many bits a head asks for, itself among them."""
    cell = 18 + 4 * (4 * tracks).bit_length() + 4 * tracks + len(SIDE_PAIRS) * tracks
    pad = tracks + tracks.bit_length()
    return HEAD + rows * columns * cell + 2 * (rows + columns) * pad


def head_of(bits):
    """The five numbers of the head of a row that has signs and length of one."""
    for sign in bits:
        if sign not in ("0", "1"):
            raise NoBits("sign")
    head = [number_of(bits[begin:begin + 8]) for begin in range(0, HEAD, 8)]
    if len(bits) < HEAD or len(bits) != asked_length(head[0], head[1], head[2]):
        raise NoBits("length")
    return head


def floor_of(head):
    """The floor that a head tells, with pads enough."""
    try:
        floor = Floor(head[0], head[1], head[2])
    except NoFloor:
        raise NoBits("floor") from None
    if head[3] + head[4] > len(pads_of(floor)):
        raise NoBits("floor")
    return floor


def ask_choices(cells, pads, tracks):
    """Refuse choices of wires that are not there."""
    for cell in cells:
        if max(cell.choices) > 4 * tracks:
            raise NoBits("choice")
    for pad in pads:
        if pad.choice > tracks:
            raise NoBits("choice")


def ask_pads(pads, ins):
    """Refuse pads that drive and are no ins."""
    for pad in pads[ins:]:
        if "1" in pad.drives:
            raise NoBits("pad")


def marked(things, bits):
    """The things whose bit is 1."""
    return [thing for thing, bit in zip(things, bits) if bit == "1"]


def wires_joined(floor, cells):
    """The dict that has for each wire the list of the wires to which it is joined."""
    beside = dict([(wire, []) for wire in wires_of(floor)])
    for box, cell in zip(cells_of(floor), cells):
        wires = box_wires(floor, box)
        for track, bits in enumerate(cell.joins):
            for low, high in marked(SIDE_PAIRS, bits):
                one = wires[low * floor.tracks + track]
                other = wires[high * floor.tracks + track]
                beside[one].append(other)
                beside[other].append(one)
    return beside


def strands_by(beside):
    """The list of strands: tuples of wires in rising order, by their first wires."""
    strands = []
    seen = {}
    for first in sorted(beside):
        strand = []
        waiting = [first]
        while len(waiting) > 0:
            wire = waiting.pop()
            if wire not in seen:
                seen[wire] = True
                strand.append(wire)
                waiting.extend(beside[wire])
        if len(strand) > 0:
            strands.append(tuple(sorted(strand)))
    return strands


def driven_wires(floor, cells, pads):
    """The dict that has for each wire the list of the cells and pads that drive it, for all that are driven."""
    driven = {}
    for number, box in enumerate(cells_of(floor)):
        for wire in marked(box_wires(floor, box), cells[number].drives):
            driven.setdefault(wire, []).append(("block", number))
    for number, pad in enumerate(pads):
        for wire in marked(pad_wires(floor, number), pad.drives):
            driven.setdefault(wire, []).append(("in", number))
    return driven


def drivers_by(strands, driven):
    """The dict that has for each wire the one cell or pad that drives its strand, for all that are driven."""
    drivers = {}
    for strand in strands:
        sources = []
        for wire in strand:
            sources.extend(driven.get(wire, []))
        if len(set(sources)) > 1:
            raise NoBits("drive")
        if len(sources) > 0:
            drivers.update(dict([(wire, sources[0]) for wire in strand]))
    return drivers


def heard_at(wires, choice, drivers):
    """The source that a choice among these wires hears."""
    if choice == 0:
        return SILENCE
    return drivers.get(wires[choice - 1], SILENCE)


def blocks_of(floor, cells, drivers):
    """A block of four sources for each cell."""
    blocks = []
    for box, cell in zip(cells_of(floor), cells):
        wires = box_wires(floor, box)
        sources = tuple([heard_at(wires, choice, drivers) for choice in cell.choices])
        # what is first in a cell that is not kept plays no part
        blocks.append((sources, cell.table, cell.kept, cell.first * cell.kept))
    return blocks


def heard_by(floor, pads, number, drivers):
    """The source that a pad hears."""
    return heard_at(pad_wires(floor, number), pads[number].choice, drivers)


class Board:
    """A row of bits, read: blocks for all cells row by row, what each out hears, and the strands."""

    def __init__(self, bits):
        head = head_of(bits)
        self.floor = floor_of(head)
        self.ins = head[3]
        self.outs = head[4]
        tracks = self.floor.tracks
        reader = BitReader(bits, HEAD)
        cells = [RawCell(reader, tracks) for box in cells_of(self.floor)]
        pads = [RawPad(reader, tracks) for spot in pads_of(self.floor)]
        ask_choices(cells, pads, tracks)
        ask_pads(pads, self.ins)
        self.strands = tuple(strands_by(wires_joined(self.floor, cells)))
        drivers = drivers_by(self.strands, driven_wires(self.floor, cells, pads))
        self.blocks = tuple(blocks_of(self.floor, cells, drivers))
        self.heard = tuple([heard_by(self.floor, pads, pad, drivers) for pad in range(self.ins, self.ins + self.outs)])
        if has_ring(self.blocks):
            raise NoBits("ring")


def strands_of(board):
    """The list of all strands, each a list of wires in rising order, by their first wires."""
    return [list(strand) for strand in board.strands]
