"""The wires of ways along a floor, and whether ways hold for a pack and its places."""

from bitfloor.floors import is_box, is_wire, side_wire
from bitfloor.kinds import is_below, is_listed
from bitfloor.signals import are_places, end_wires, has_pads, signals_of


def join_wires(floor, join):
    """The two wires that a join joins."""
    return [side_wire(floor, join[0], side, join[3]) for side in (join[1], join[2])]


def wires_beside(floor, joins):
    """The dict that has for each wire of the joins the list of the wires to which it is joined."""
    beside = {}
    for join in joins:
        wires = join_wires(floor, join)
        beside.setdefault(wires[0], []).append(wires[1])
        beside.setdefault(wires[1], []).append(wires[0])
    return beside


def wire_counts(floor, way):
    """The dict of the wires of a way, each with the fewest wires from a drive to it, both counted."""
    beside = wires_beside(floor, way[1])
    counts = {}
    nearest = [tuple(wire) for wire in way[0]]
    count = 0
    while len(nearest) > 0:
        count += 1
        further = []
        for wire in nearest:
            if wire not in counts:
                counts[wire] = count
                further.extend(beside.get(wire, []))
        nearest = further
    return counts


def way_wires(floor, way):
    """The list of the wires of a way, rising."""
    return sorted(wire_counts(floor, way))


def is_join(floor, thing):
    """True for a box of the floor, two of its sides, the lesser first, and a track."""
    if not is_listed(thing) or len(thing) != 4 or not is_box(floor, thing[0]):
        return False
    return is_below(thing[1], 4) and is_below(thing[2], 4) and thing[1] < thing[2] and is_below(thing[3], floor.tracks)


def is_way(floor, thing):
    """True for drives, joins and taps, all of them of the floor."""
    if not is_listed(thing) or len(thing) != 3 or not all([is_listed(part) for part in thing]):
        return False
    if not all([is_wire(floor, wire) for wire in thing[0]]) or not all([is_wire(floor, wire) for wire in thing[2]]):
        return False
    return all([is_join(floor, join) for join in thing[1]])


def ends_hold(pack, floor, places, signal, way):
    """Whether a way's drives are wires at its source, and its taps wires at its sinks, one for each."""
    driven = end_wires(pack, floor, places, signal[0])
    if len(way[2]) != len(signal[1]) or not all([tuple(wire) in driven for wire in way[0]]):
        return False
    return all([tuple(wire) in end_wires(pack, floor, places, sink) for sink, wire in zip(signal[1], way[2])])


def joins_hold(floor, joins, wires):
    """Whether each join stands there once and joins two of the wires."""
    told = [(tuple(join[0]), join[1], join[2], join[3]) for join in joins]
    if len(set(told)) != len(told):
        return False
    # of two joined wires both are the way's or none is
    return all([join_wires(floor, join)[0] in wires for join in told])


def way_holds(pack, floor, places, signal, way):
    """Whether a way leads from its signal's source to all its sinks, and no join of it is for nothing."""
    if not ends_hold(pack, floor, places, signal, way):
        return False
    wires = way_wires(floor, way)
    return joins_hold(floor, way[1], wires) and all([tuple(wire) in wires for wire in way[2]])


def ways_hold(pack, floor, places, ways):
    """True where there is one way for each signal, and no wire is of two ways."""
    if not has_pads(pack, floor) or not are_places(pack, floor, places) or not is_listed(ways):
        return False
    signals = signals_of(pack)
    if len(ways) != len(signals) or not all([is_way(floor, way) for way in ways]):
        return False
    if not all([way_holds(pack, floor, places, signal, way) for signal, way in zip(signals, ways)]):
        return False
    wires = []
    for way in ways:
        wires.extend(way_wires(floor, way))
    return len(set(wires)) == len(wires)
