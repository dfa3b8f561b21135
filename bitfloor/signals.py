"""The signals of a pack, and how far they stretch on a floor."""

from bitfloor.errors import NoRoom
from bitfloor.floors import box_wires, is_box, pad_wires, pads_of
from bitfloor.kinds import is_listed


def signals_of(pack):
    """The list of pairs of a source and its sinks, for all sources that have one: ins, then blocks."""
    sinks = {}
    for number, block in enumerate(pack.blocks):
        for place, source in enumerate(block[0]):
            sinks.setdefault(source, []).append(("block", number, place))
    for number, source in enumerate(pack.outs):
        sinks.setdefault(source, []).append(("out", number))
    rising = sorted(sinks)
    ordered = [source for source in rising if source[0] == "in"] + [source for source in rising if source[0] == "block"]
    return [(source, sinks[source]) for source in ordered]


def has_pads(pack, floor):
    """True where there is a pad for each in and each out."""
    return len(pads_of(floor)) >= pack.ins + len(pack.outs)


def are_places(pack, floor, places):
    """True for a list of a cell of the floor for each block, no two alike."""
    if not is_listed(places) or len(places) != len(pack.blocks):
        return False
    if not all([is_box(floor, cell) for cell in places]):
        return False
    return len(set([tuple(cell) for cell in places])) == len(places)


def ask_places(pack, floor, places):
    """Refuse a floor with too few pads, and places that are not as told."""
    if not has_pads(pack, floor) or not are_places(pack, floor, places):
        raise NoRoom("there are too few pads, or the places are not as told")


def spot_of(pack, pads, places, end):
    """The spot of a source or a sink."""
    if end[0] == "in":
        return pads[end[1]]
    if end[0] == "out":
        return pads[pack.ins + end[1]]
    return places[end[1]]


def end_wires(pack, floor, places, end):
    """The list of the wires at the box or of the pad of a source or a sink."""
    if end[0] == "in":
        return pad_wires(floor, end[1])
    if end[0] == "out":
        return pad_wires(floor, pack.ins + end[1])
    return box_wires(floor, places[end[1]])


def signal_stretch(spots):
    """How far apart in rows and in columns the least and greatest of the spots lie, together."""
    rows = [spot[0] for spot in spots]
    columns = [spot[1] for spot in spots]
    return max(rows) - min(rows) + max(columns) - min(columns)


def stretch_of(pack, floor, places):
    """The stretch of all signals together."""
    ask_places(pack, floor, places)
    pads = pads_of(floor)
    stretch = 0
    for source, sinks in signals_of(pack):
        stretch += signal_stretch([spot_of(pack, pads, places, end) for end in [source] + sinks])
    return stretch
