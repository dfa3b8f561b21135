"""Tables of at most four leaves."""

from bitfloor.errors import NoTables
from bitfloor.kinds import is_below, is_listed, is_place, is_whole


def is_table(thing, counts):
    """True for a pair of at most four places and the bits for all that these can have."""
    if not isinstance(thing, tuple) or len(thing) != 2 or not is_listed(thing[0]) or len(thing[0]) > 4:
        return False
    return is_below(thing[1], 1 << (1 << len(thing[0]))) and all([is_place(leaf, counts) for leaf in thing[0]])


def is_keep(thing, counts):
    """True for a pair of a first value and a place."""
    return isinstance(thing, tuple) and len(thing) == 2 and is_below(thing[0], 2) and is_place(thing[1], counts)


def ask_tables(ins, tables, keeps, outs):
    """Refuse what is not tables, keeps and outs with so many ins."""
    if not is_whole(ins) or ins < 0:
        raise NoTables("the number of ins is none")
    if not is_listed(tables) or not is_listed(keeps) or not is_listed(outs):
        raise NoTables("tables, keeps and outs are lists")
    counts = {"in": ins, "keep": len(keeps), "table": len(tables)}
    for number, table in enumerate(tables):
        if not is_table(table, {"in": ins, "keep": len(keeps), "table": number}):
            raise NoTables("a table is not as told")
    if not all([is_keep(keep, counts) for keep in keeps]):
        raise NoTables("a keep is not as told")
    if not all([is_place(out, counts) for out in outs]):
        raise NoTables("an out is no place")


class Tables:
    """Tables, each fed by ins, keeps and tables ahead of it; what each keep holds first and takes; and the outs."""

    def __init__(self, ins, tables, keeps, outs):
        ask_tables(ins, tables, keeps, outs)
        self.ins = ins
        self.tables = tuple([(tuple(leaves), bits) for leaves, bits in tables])
        self.keeps = tuple(keeps)
        self.outs = tuple(outs)


def table_bit(bits, fed):
    """The bit that a table of these bits tells when its leaves have the bits that are fed."""
    number = sum([bit << place for place, bit in enumerate(fed)])
    return bits >> number & 1


def depth_of(tables):
    """The greatest number of tables, each feeding the next, on a row that ends at an out or a keep's place."""
    depths = []
    for leaves, bits in tables.tables:
        depths.append(1 + max([depths[number] for word, number in leaves if word == "table"], default=0))
    ends = list(tables.outs) + [place for first, place in tables.keeps]
    return max([depths[number] for word, number in ends if word == "table"], default=0)
