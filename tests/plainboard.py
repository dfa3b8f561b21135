"""Rows of bits read and played plainly by the document's words, to hold the program against."""

import random

from samples import bits_of


def whole(text):
    return int(text, 2) if text else 0


class PlainBoard:
    """A row of bits; why is the word by which it is refused, or None."""

    def __init__(self, bits):
        self.why = self.find_why(bits)

    def find_why(self, bits):
        if set(bits) - {"0", "1"}:
            return "sign"
        if len(bits) < 40:
            return "length"
        rows, columns, tracks, ins, outs = [whole(bits[8 * part:8 * part + 8]) for part in range(5)]
        self.sizes = (rows, columns, tracks)
        self.ins = ins
        self.outs = outs
        wide = len(bin(4 * tracks)[2:]) if tracks else 0
        pad_wide = len(bin(tracks)[2:]) if tracks else 0
        if len(bits) != len(bits_of(self.sizes)):
            return "length"
        if not (1 <= rows <= 10 and 1 <= columns <= 10 and 1 <= tracks <= 8) or ins + outs > 2 * (rows + columns):
            return "floor"
        spot = 40
        self.cells = []
        for box in [(row, column) for row in range(rows) for column in range(columns)]:
            size = 18 + 4 * wide + 10 * tracks
            part = bits[spot:spot + size]
            spot += size
            choices = [whole(part[18 + wide * place:18 + wide * (place + 1)]) for place in range(4)]
            rest = part[18 + 4 * wide:]
            wires = self.box_wires(box)
            drives = [wires[number] for number in range(4 * tracks) if rest[number] == "1"]
            pairs = [(low, high) for low in range(4) for high in range(low + 1, 4)]
            joins = []
            for number, bit in enumerate(rest[4 * tracks:]):
                if bit == "1":
                    joins.append([wires[side * tracks + number // 6] for side in pairs[number % 6]])
            self.cells.append((part[:16], int(part[16]), int(part[17]), choices, drives, joins, wires))
        self.pads = []
        for wires in self.pad_wires():
            part = bits[spot:spot + tracks + pad_wide]
            spot += tracks + pad_wide
            drives = [wire for wire, bit in zip(wires, part) if bit == "1"]
            self.pads.append((drives, whole(part[tracks:]), wires))
        return self.find_fault()

    def box_wires(self, box):
        row, column = box
        sides = (("h", row, column - 1), ("h", row, column), ("v", row - 1, column), ("v", row, column))
        return [side + (track,) for side in sides for track in range(self.sizes[2])]

    def pad_wires(self):
        rows, columns, tracks = self.sizes
        spots = [("h", row, -1) for row in range(rows)] + [("v", -1, column) for column in range(columns)]
        spots += [("h", row, columns - 1) for row in range(rows)] + [("v", rows - 1, column) for column in range(columns)]
        return [[spot + (track,) for track in range(tracks)] for spot in spots]

    def find_fault(self):
        tracks = self.sizes[2]
        if any(choice > 4 * tracks for cell in self.cells for choice in cell[3]):
            return "choice"
        if any(pad[1] > tracks for pad in self.pads):
            return "choice"
        if any(pad[0] for pad in self.pads[self.ins:]):
            return "pad"
        self.strands = self.find_strands()
        for strand in self.strands:
            if len(self.drivers(strand)) > 1:
                return "drive"
        if self.has_ring():
            return "ring"
        return None

    def find_strands(self):
        strand = {}
        for cell in self.cells:
            strand.update((wire, {wire}) for wire in cell[6])
        for cell in self.cells:
            for one, other in cell[5]:
                both = strand[one] | strand[other]
                for wire in both:
                    strand[wire] = both
        found = []
        for wire in sorted(strand):
            if min(strand[wire]) == wire:
                found.append(sorted(strand[wire]))
        return found

    def drivers(self, strand):
        found = {("cell", number) for number, cell in enumerate(self.cells) if set(cell[4]) & set(strand)}
        return found | {("in", number) for number, pad in enumerate(self.pads) if set(pad[0]) & set(strand)}

    def heard(self, wires, choice):
        """The source that drives the strand of a choice, None where there is none."""
        if choice == 0:
            return None
        strand = [strand for strand in self.strands if wires[choice - 1] in strand][0]
        found = list(self.drivers(strand))
        return found[0] if found else None

    def has_ring(self):
        self.sources = [[self.heard(cell[6], choice) for choice in cell[3]] for cell in self.cells]
        self.ends = [self.heard(pad[2], pad[1]) for pad in self.pads[self.ins:self.ins + self.outs]]
        free = set()
        while True:
            more = {number for number, cell in enumerate(self.cells) if cell[1] or all(
                source is None or source[0] == "in" or source[1] in free for source in self.sources[number])}
            if more == free:
                return len(free) != len(self.cells)
            free = more

    def play(self, rows):
        """The list of pairs of the outs' bits and what the kept cells hold behind each row."""
        held = {number: cell[2] for number, cell in enumerate(self.cells) if cell[1]}
        answers = []
        for row in rows:
            told = dict(held)

            def bit(source):
                if source is None:
                    return 0
                if source[0] == "in":
                    return row[source[1]]
                if source[1] not in told:
                    told[source[1]] = table(source[1])
                return told[source[1]]

            def table(number):
                fed = [bit(source) for source in self.sources[number]]
                return int(self.cells[number][0][sum(value * 2 ** place for place, value in enumerate(fed))])

            outs = [bit(source) for source in self.ends]
            held = {number: table(number) for number in held}
            answers.append((outs, [held[number] for number in sorted(held)]))
        return answers


def random_row(seed, busy=0.12):
    """A row of bits with random tables, choices, drives and joins; it may be no board's."""
    source = random.Random(seed)
    rows, columns, tracks = sizes = (source.randint(1, 3), source.randint(1, 3), source.randint(1, 3))
    pads = 2 * (rows + columns)
    ins = source.randint(0, min(4, pads))
    outs = source.randint(0, min(4, pads - ins))
    cells = {}
    for number in range(rows * columns):
        kept = int(source.random() < 0.4)
        cells[number] = {
            "table": "".join(source.choice("01") for place in range(16)), "kept": kept, "first": source.randint(0, 1),
            "choices": [source.randint(0, 4 * tracks) if source.random() < 0.6 else 0 for place in range(4)],
            "drives": [(side, track) for side in range(4) for track in range(tracks) if source.random() < busy],
            "joins": [(track, low, high) for track in range(tracks) for low in range(4) for high in range(low + 1, 4)
                      if source.random() < busy],
        }
    told = {}
    for number in range(pads):
        drives = [track for track in range(tracks) if number < ins and source.random() < 0.5]
        told[number] = (drives, source.randint(0, tracks))
    return bits_of(sizes, ins, outs, cells, told)


def random_boards(count, first=0):
    """So many pairs of a row of bits that is a board's and its plain board."""
    found = []
    seed = first
    while len(found) < count:
        bits = random_row(seed)
        board = PlainBoard(bits)
        if board.why is None:
            found.append((bits, board))
        seed += 1
    return found
