"""Tables opened to a net of gates."""

from bitfloor.nets import Net
from bitfloor.raising import Rig


def opened_gate(rig, leaves, bits, known):
    """The number of a gate that has the bit of a table; known has those of the parts that are open already.

    Every leaf is asked, also one that changes nothing: so a gate is fed by all its table's leaves, and what is
    shown of the table by its leaves can be shown of the gate.
    """
    if len(leaves) == 0:
        return rig.constant(bits)
    mark = (len(leaves), bits)
    if mark not in known:
        # the last leaf tells whether the lower or the upper half of the bits is asked
        half = 1 << (len(leaves) - 1)
        lower = opened_gate(rig, leaves[:-1], bits & (1 << half) - 1, known)
        upper = opened_gate(rig, leaves[:-1], bits >> half, known)
        known[mark] = rig.lay(("pick", leaves[-1], upper, lower))
    return known[mark]


def opened_net(tables):
    """The pair of a net that tells what the tables tell and the list of the number of a gate for each table."""
    rig = Rig()
    gates = {}
    for number in range(tables.ins):
        gates[("in", number)] = rig.lay(("in",))
    for number, keep in enumerate(tables.keeps):
        # what feeds it is known when all tables are open
        gates[("keep", number)] = rig.lay(("keep", keep[0], 0))
    for number, table in enumerate(tables.tables):
        gates[("table", number)] = opened_gate(rig, [gates[leaf] for leaf in table[0]], table[1], {})
    keeps = [gates[("keep", number)] for number in range(len(tables.keeps))]
    rig.feed_keeper(keeps, [gates[place] for first, place in tables.keeps])
    numbers = [gates[("table", number)] for number in range(len(tables.tables))]
    return (Net(rig.gates, [gates[out] for out in tables.outs]), numbers)
