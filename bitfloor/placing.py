"""Blocks placed on the cells of a floor, and whether steps show how their places were come to."""

from bitfloor.errors import NoRoom
from bitfloor.floors import cells_of, is_box, pads_of
from bitfloor.kinds import is_listed, is_whole
from bitfloor.signals import are_places, has_pads, signal_stretch, signals_of, spot_of, stretch_of


def has_room(pack, floor):
    """True where there is a pad for each in and each out, and a cell for each block."""
    return has_pads(pack, floor) and len(pack.blocks) <= floor.rows * floor.columns


def first_places(pack, floor):
    """The places that are begun with: block k at the k-th cell."""
    return cells_of(floor)[:len(pack.blocks)]


def bounds_of(spots):
    """The least and the greatest row, the least and the greatest column of some spots."""
    rows = [spot[0] for spot in spots]
    columns = [spot[1] for spot in spots]
    return (min(rows), max(rows), min(columns), max(columns))


class Placer:
    """Places as they are made better step by step.

    What an exchange of two cells brings hangs on the signals of their blocks alone. So a pair of cells that was
    tried in vain is not tried again until one of these signals has changed.
    """

    def __init__(self, pack, floor):
        self.pack = pack
        self.pads = pads_of(floor)
        self.cells = cells_of(floor)
        self.places = first_places(pack, floor)
        self.settled = dict([(cell, block) for block, cell in enumerate(self.places)])
        self.vain = {}
        self.ends = [[source] + sinks for source, sinks in signals_of(pack)]
        self.members = [dict([(end[1], True) for end in ends if end[0] == "block"]) for ends in self.ends]
        self.touched = [[] for block in pack.blocks]
        for number, members in enumerate(self.members):
            for block in members:
                self.touched[block].append(number)
        self.bounds = [{} for ends in self.ends]
        self.stretches = [signal_stretch(self.spots(number, None)) for number in range(len(self.ends))]

    def spots(self, number, block):
        """The spots of the ends of a signal, but those of a block."""
        ends = [end for end in self.ends[number] if end[0] != "block" or end[1] != block]
        return [spot_of(self.pack, self.pads, self.places, end) for end in ends]

    def bounds_beside(self, number, block, cell):
        """The bounds of a signal's spots but a block's, those of the cell alone where it has no others."""
        if block not in self.bounds[number]:
            spots = self.spots(number, block)
            if len(spots) == 0:
                return bounds_of([cell])
            self.bounds[number][block] = bounds_of(spots)
        return self.bounds[number][block]

    def change(self, block, cell, other):
        """How the stretch changes when a block comes to a cell where the other one was, which takes its cell."""
        total = 0
        for number in self.touched[block]:
            # a signal of both has the same spots behind the exchange
            if other not in self.members[number]:
                bounds = self.bounds_beside(number, block, cell)
                rows = max(bounds[1], cell[0]) - min(bounds[0], cell[0])
                columns = max(bounds[3], cell[1]) - min(bounds[2], cell[1])
                total += rows + columns - self.stretches[number]
        return total

    def brings_less(self, one, other):
        """True where the stretch becomes less when what two cells have is exchanged."""
        blocks = (self.settled.get(one), self.settled.get(other))
        total = 0
        if blocks[0] is not None:
            total += self.change(blocks[0], other, blocks[1])
        if blocks[1] is not None:
            total += self.change(blocks[1], one, blocks[0])
        return total < 0

    def exchange(self, one, other):
        """Exchange what two cells have, and let all be asked again that this changes."""
        moved = [(self.settled.pop(one, None), other), (self.settled.pop(other, None), one)]
        numbers = []
        for block, cell in moved:
            if block is not None:
                self.settled[cell] = block
                self.places[block] = cell
                numbers.extend(self.touched[block])
        near = {one: True, other: True}
        for number in numbers:
            self.bounds[number] = {}
            self.stretches[number] = signal_stretch(self.spots(number, None))
            near.update(dict([(self.places[block], True) for block in self.members[number]]))
        self.vain = dict([(pair, True) for pair in self.vain if pair[0] not in near and pair[1] not in near])

    def step(self):
        """The first exchange that brings less stretch, done, with the stretch behind; None where there is none."""
        for number, one in enumerate(self.cells):
            for other in self.cells[number + 1:]:
                if (one, other) in self.vain:
                    continue
                if self.brings_less(one, other):
                    self.exchange(one, other)
                    return (one, other, sum(self.stretches))
                self.vain[(one, other)] = True
        return None


def placed(pack, floor, most):
    """The pair of places and of the steps, at most so many, that lead to them."""
    if not has_room(pack, floor):
        raise NoRoom("there are too few pads or cells")
    placer = Placer(pack, floor)
    steps = []
    while len(steps) < most:
        step = placer.step()
        if step is None:
            break
        steps.append(step)
    return (list(placer.places), steps)


def is_step(floor, thing):
    """True for two cells, the lesser one first, and a whole number."""
    if not is_listed(thing) or len(thing) != 3 or not is_whole(thing[2]):
        return False
    return is_box(floor, thing[0]) and is_box(floor, thing[1]) and tuple(thing[0]) < tuple(thing[1])


def exchanged_places(places, one, other):
    """The places when what two cells have is exchanged."""
    turned = {one: other, other: one}
    return [turned.get(cell, cell) for cell in places]


def places_hold(pack, floor, places, steps):
    """True where the steps, each with less stretch than the one ahead, lead from the beginning to the places."""
    if not has_room(pack, floor) or not are_places(pack, floor, places) or not is_listed(steps):
        return False
    now = first_places(pack, floor)
    stretch = stretch_of(pack, floor, now)
    for step in steps:
        if not is_step(floor, step):
            return False
        moved = exchanged_places(now, tuple(step[0]), tuple(step[1]))
        # where both cells are empty nothing moves, and the stretch does not become less
        if step[2] >= stretch or step[2] != stretch_of(pack, floor, moved):
            return False
        now = moved
        stretch = step[2]
    return now == [tuple(cell) for cell in places]
