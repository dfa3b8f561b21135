"""All the way from a text to a row of bits, the look at every paper of it, and the way back."""

from bitfloor.back import read_back
from bitfloor.bitwriting import bits_row
from bitfloor.errors import NoBits
from bitfloor.fitcheck import fit_holds
from bitfloor.fitting import fitted
from bitfloor.floors import Floor
from bitfloor.kinds import is_listed
from bitfloor.leading import led
from bitfloor.meets import meets_of
from bitfloor.nets import Net, keeps_of
from bitfloor.opening import opened_net
from bitfloor.packing import pack_holds, packed
from bitfloor.packs import Pack
from bitfloor.placing import placed, places_hold
from bitfloor.raising import raised
from bitfloor.reading import read_modules
from bitfloor.shrinking import made_small
from bitfloor.smallcheck import small_holds
from bitfloor.tables import Tables
from bitfloor.wayscheck import ways_hold


class Made:
    """The thirteen things that are made of a text, by their names."""

    def __init__(self, made):
        self.floor = made[1]
        self.net = made[2]
        self.small = made[3]
        self.shrinking = made[4]
        self.tables = made[5]
        self.fit = made[6]
        self.pack = made[7]
        self.packing = made[8]
        self.places = made[9]
        self.steps = made[10]
        self.ways = made[11]
        self.bits = made[12]


def made_whole(text, floor, most, rounds):
    """The tuple of all that is made of a text on the way to its row of bits, each thing of what stands ahead."""
    modules = read_modules(text)
    net = raised(modules)
    small = made_small(net)
    tables = fitted(small[0])
    pack = packed(tables[0])
    places = placed(pack[0], floor, most)
    ways = led(pack[0], floor, places[0], rounds)
    bits = bits_row(pack[0], floor, places[0], ways)
    return (modules, floor, net) + small + tables + pack + places + (ways, bits)


def kinds_hold(made):
    """Whether the floor, the nets, the tables and the pack are of their kinds."""
    if not isinstance(made.floor, Floor) or not isinstance(made.net, Net) or not isinstance(made.small, Net):
        return False
    return isinstance(made.tables, Tables) and isinstance(made.pack, Pack)


def all_hold(made):
    """True where every checker takes its paper and the bits are those of the pack, the places and the ways."""
    if not is_listed(made) or len(made) != 13:
        return False
    whole = Made(made)
    if not kinds_hold(whole) or not small_holds(whole.net, whole.small, whole.shrinking):
        return False
    if not fit_holds(whole.small, whole.tables, whole.fit) or not pack_holds(whole.tables, whole.pack, whole.packing):
        return False
    if not places_hold(whole.pack, whole.floor, whole.places, whole.steps):
        return False
    if not ways_hold(whole.pack, whole.floor, whole.places, whole.ways):
        return False
    return whole.bits == bits_row(whole.pack, whole.floor, whole.places, whole.ways)


def stands_by_cells(made, cells):
    """The keep or table that the block at each of the cells stands for, None where there is no block."""
    stands = dict([(tuple(cell), stand) for cell, stand in zip(made.places, made.packing)])
    return [stands.get(cell) for cell in cells]


def met_pairs(small, fit, stands, keeps, opened):
    """The pairs of gates of the small net and of the opened one that have the same bits, as far as papers tell.

    Stands has for each table that was read back what its cell's block stands for, keeps those tables that keep
    gates take, and opened is the pair of the net and the tables' gates.
    """
    small_keeps = keeps_of(small)
    pairs = []
    for keep, number in zip(keeps, keeps_of(opened[0])):
        if stands[keep] is not None and stands[keep][0] == "keep":
            pairs.append((small_keeps[stands[keep][1]], number))
    # what feeds keep gates is met behind all pairs, told or not
    for stand, number in zip(stands, opened[1]):
        if stand is not None and stand[0] == "table":
            pairs.append((fit[stand[1]], number))
    return pairs


def same_again(made):
    """A paper of meets of the small net and of what is opened of the bits read back, None where none is found."""
    whole = Made(made)
    try:
        read = read_back(whole.bits)
    except NoBits:
        return None
    opened = opened_net(read[0])
    keeps = [place[1] for first, place in read[0].keeps]
    pairs = met_pairs(whole.small, whole.fit, stands_by_cells(whole, read[1]), keeps, opened)
    return meets_of(whole.small, opened[0], pairs)
