"""The times that a board needs for a beat, reckoned along its ways."""

from bitfloor.packs import loose_order
from bitfloor.signals import signals_of
from bitfloor.wayscheck import wire_counts


def wires_to_sinks(pack, floor, ways):
    """The dict that has for each sink the number of wires by which its source comes to it."""
    counts = {}
    for signal, way in zip(signals_of(pack), ways):
        reached = wire_counts(floor, way)
        for sink, tap in zip(signal[1], way[2]):
            counts[sink] = reached[tuple(tap)]
    return counts


class Times:
    """When each block has its table's value and each out its own, for a table's time and a wire's time."""

    def __init__(self, pack, floor, ways, table, wire):
        self.pack = pack
        self.counts = wires_to_sinks(pack, floor, ways)
        self.table = table
        self.wire = wire
        self.arrivals = {}
        loose = loose_order(pack.blocks)
        kept = [number for number, block in enumerate(pack.blocks) if block[2] == 1]
        for number in loose + kept:
            comings = [self.comes_at(source, sink) for source, sink in self.feeding(("block", number))]
            self.arrivals[number] = max(comings, default=0) + table

    def is_start(self, source):
        """True for an in and a kept block, which have their value at 0."""
        return source[0] == "in" or self.pack.blocks[source[1]][2] == 1

    def feeding(self, end):
        """The pairs of a source and a sink by which a block or an out is fed."""
        if end[0] == "out":
            return [(self.pack.outs[end[1]], end)]
        return [(source, end + (place,)) for place, source in enumerate(self.pack.blocks[end[1]][0])]

    def comes_at(self, source, sink):
        """When a source's value comes to a sink."""
        begin = 0 if self.is_start(source) else self.arrivals[source[1]]
        return begin + self.wire * self.counts[sink]

    def end_time(self, end):
        """When a block has its table's value, or an out its own."""
        if end[0] == "out":
            return self.comes_at(self.pack.outs[end[1]], end)
        return self.arrivals[end[1]]

    def all_ends(self):
        """All blocks and outs."""
        blocks = [("block", number) for number in range(len(self.pack.blocks))]
        return blocks + [("out", number) for number in range(len(self.pack.outs))]

    def latest_source(self, end):
        """The source that comes last to a block or an out, None where it has none."""
        latest = None
        for source, sink in self.feeding(end):
            time = self.comes_at(source, sink)
            if latest is None or time > latest[0]:
                latest = (time, source)
        return None if latest is None else latest[1]


def arrivals_of(pack, floor, places, ways, table, wire):
    """The pair of lists: when each block has its table's value, and when each out has its value."""
    times = Times(pack, floor, ways, table, wire)
    told = [times.end_time(end) for end in times.all_ends()]
    return (told[:len(pack.blocks)], told[len(pack.blocks):])


def needed_time(pack, floor, places, ways, table, wire):
    """The greatest of all these times, 0 where there is none."""
    times = Times(pack, floor, ways, table, wire)
    return max([times.end_time(end) for end in times.all_ends()], default=0)


def worst_row(pack, floor, places, ways, table, wire):
    """The list of sources, each feeding the next, by which the last one needs the greatest time."""
    times = Times(pack, floor, ways, table, wire)
    ends = times.all_ends()
    if len(ends) == 0:
        return []
    row = [max(ends, key=times.end_time)]
    source = times.latest_source(row[0])
    while source is not None:
        row.append(source)
        source = None if times.is_start(source) else times.latest_source(source)
    return list(reversed(row))
