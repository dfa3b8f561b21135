"""Whether tables fit a net."""

from bitfloor.kinds import is_below, is_listed
from bitfloor.nets import ins_of, keeps_of
from bitfloor.rowbits import bits_from, leaf_bits, whole_bits


def bit_from(net, gate, known):
    """A gate's bit reckoned from a dict of gates' bits, None where these gates do not shut it off."""
    return bits_from(net, gate, known, 1)


def gates_by_place(net, paper):
    """The dict of the gates for which the places stand."""
    gates = {}
    for word, numbers in (("in", ins_of(net)), ("keep", keeps_of(net)), ("table", paper)):
        for count, number in enumerate(numbers):
            gates[(word, count)] = number
    return gates


def counts_agree(net, tables):
    """Whether the net has as many in gates, keep gates and outs as the tables."""
    if len(ins_of(net)) != tables.ins or len(keeps_of(net)) != len(tables.keeps):
        return False
    return len(net.outs) == len(tables.outs)


def ends_hold(net, tables, gates):
    """Whether each out stands for its gate, and each keep has its first value and a place that stands for its feed."""
    for number, keep in zip(keeps_of(net), tables.keeps):
        if net.gates[number] != ("keep", keep[0], gates[keep[1]]):
            return False
    return [gates[place] for place in tables.outs] == list(net.outs)


def table_holds(net, gate, leaves, bits):
    """Whether a table has these bits when its leaves stand for these gates and it stands for that gate."""
    if len(set(leaves)) != len(leaves):
        return False
    known = dict([(leaf, leaf_bits(place, len(leaves))) for place, leaf in enumerate(leaves)])
    return bits_from(net, gate, known, whole_bits(len(leaves))) == bits


def fit_holds(net, tables, paper):
    """True where the paper, a gate for each table, shows that the tables tell what the net tells."""
    if not is_listed(paper) or len(paper) != len(tables.tables):
        return False
    if not all([is_below(number, len(net.gates)) for number in paper]) or not counts_agree(net, tables):
        return False
    gates = gates_by_place(net, paper)
    if not ends_hold(net, tables, gates):
        return False
    for number, table in zip(paper, tables.tables):
        if not table_holds(net, number, [gates[leaf] for leaf in table[0]], table[1]):
            return False
    return True
