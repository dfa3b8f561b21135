"""Ways found for the signals of a pack along the wires of a floor."""

from bitfloor.errors import NoWays
from bitfloor.floors import SIDE_PAIRS, cells_of, side_wire, wires_of
from bitfloor.signals import ask_places, end_wires, signals_of

# what a wire that is shared costs more from each round on
DEARER = 3


class Streets:
    """The wires of a floor by numbers: those beside each, the joins between two, and what each has cost so far.

    Several signals may share a wire at first. In each round the wires that are shared grow dearer, until each
    signal that has another way takes it.
    """

    def __init__(self, floor):
        self.wires = wires_of(floor)
        self.numbers = dict([(wire, number) for number, wire in enumerate(self.wires)])
        self.beside = [[] for wire in self.wires]
        self.joins = {}
        self.users = [0] * len(self.wires)
        self.past = [0] * len(self.wires)
        self.prices = [1] * len(self.wires)
        self.weight = 1
        for box in cells_of(floor):
            for track in range(floor.tracks):
                self.lay_box(floor, box, track)

    def lay_box(self, floor, box, track):
        """Let each two wires of a box and a track stand beside one another."""
        sides = [self.numbers[side_wire(floor, box, side, track)] for side in range(4)]
        for low, high in SIDE_PAIRS:
            for one, other in ((sides[low], sides[high]), (sides[high], sides[low])):
                self.beside[one].append(other)
                self.joins[(one, other)] = (box, low, high, track)

    def use(self, wire, more):
        """Let a wire have so many users more, and the price that it has with these."""
        self.users[wire] += more
        self.prices[wire] = 1 + self.past[wire] + self.weight * self.users[wire]

    def cheapest(self, taken, starts, goals):
        """The wires of the cheapest row from a taken wire, or a start, which costs its price, to a goal."""
        prices = self.prices
        levels = {0: [(wire, None) for wire in taken]}
        for wire in starts:
            levels.setdefault(prices[wire], []).append((wire, None))
        came = {}
        level = 0
        while True:
            here = levels.pop(level, [])
            for wire, ahead in here:
                if wire in came:
                    continue
                came[wire] = ahead
                if wire in goals:
                    return row_to(came, wire)
                for other in self.beside[wire]:
                    if other not in came:
                        levels.setdefault(level + prices[other], []).append((other, wire))
            level += 1

    def shared(self):
        """The dict of the wires that more than one signal has."""
        return dict([(wire, True) for wire, count in enumerate(self.users) if count > 1])

    def grow_dearer(self, shared):
        """Let the wires that are shared cost more from now on, and all wires for each user that they have."""
        self.weight += 1
        for wire in shared:
            self.past[wire] += DEARER
        for wire in range(len(self.wires)):
            self.use(wire, 0)


def row_to(came, wire):
    """The row of wires that ends at this one, each coming from the one ahead."""
    row = [wire]
    while came[row[-1]] is not None:
        row.append(came[row[-1]])
    return list(reversed(row))


class Lead:
    """One signal: the wires at its source and at each sink, and the way that it has now."""

    def __init__(self, starts, goals):
        self.starts = starts
        self.goals = goals
        self.drives = []
        self.links = []
        self.taps = []
        self.taken = {}

    def leave(self, streets):
        """Give up the wires that the signal has."""
        for wire in self.taken:
            streets.use(wire, -1)
        self.taken = {}

    def find(self, streets):
        """Take the cheapest wires to one sink after the other, the nearest first."""
        self.drives = []
        self.links = []
        self.taps = [None] * len(self.goals)
        while None in self.taps:
            goals = {}
            for sink, wires in enumerate(self.goals):
                if self.taps[sink] is None:
                    goals.update(dict([(wire, True) for wire in wires]))
            row = streets.cheapest(list(self.taken), self.starts, goals)
            self.take_row(streets, row)
            for sink, wires in enumerate(self.goals):
                if self.taps[sink] is None and row[-1] in wires:
                    self.taps[sink] = row[-1]

    def take_row(self, streets, row):
        """Take the wires of a row that begins at a taken wire or at a drive."""
        if row[0] not in self.taken:
            self.drives.append(row[0])
        self.links.extend([streets.joins[pair] for pair in zip(row, row[1:])])
        for wire in row:
            if wire not in self.taken:
                self.taken[wire] = True
                streets.use(wire, 1)

    def way(self, streets):
        """The way that the signal has, in lists of its own."""
        drives = [streets.wires[wire] for wire in self.drives]
        return (drives, list(self.links), [streets.wires[wire] for wire in self.taps])


def leads_for(pack, floor, places, streets):
    """A lead for each signal; where the tracks are enough each has one of its own, on which nobody is in its way."""
    signals = signals_of(pack)
    leads = []
    for number, signal in enumerate(signals):
        starts = end_wires(pack, floor, places, signal[0])
        if len(signals) <= floor.tracks:
            starts = [wire for wire in starts if wire[3] == number]
        goals = [[streets.numbers[wire] for wire in end_wires(pack, floor, places, sink)] for sink in signal[1]]
        leads.append(Lead([streets.numbers[wire] for wire in starts], goals))
    return leads


def sharing(leads, shared):
    """The numbers of the leads that have one of the shared wires."""
    return [number for number, lead in enumerate(leads) if any([wire in shared for wire in lead.taken])]


def led(pack, floor, places, rounds):
    """The list of a way for each signal, found in at most so many rounds."""
    ask_places(pack, floor, places)
    streets = Streets(floor)
    leads = leads_for(pack, floor, places, streets)
    waiting = list(range(len(leads)))
    for count in range(rounds):
        for lead in leads:
            lead.leave(streets)
            lead.find(streets)
        shared = streets.shared()
        waiting = sharing(leads, shared)
        if len(waiting) == 0:
            break
        streets.grow_dearer(shared)
    if len(waiting) > 0:
        raise NoWays(waiting[0])
    return [lead.way(streets) for lead in leads]
