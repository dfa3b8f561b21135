"""Nets of gates."""

from bitfloor.errors import NoNet
from bitfloor.kinds import is_below

FEED_COUNTS = {"in": 0, "zero": 0, "one": 0, "not": 1, "and": 2, "or": 2, "xor": 2, "pick": 3}


def is_gate(thing, ahead, total):
    """True for a gate with so many gates ahead of it that it may be fed by, of so many in all."""
    if not isinstance(thing, tuple) or len(thing) == 0 or not isinstance(thing[0], str):
        return False
    if thing[0] == "keep":
        return len(thing) == 3 and is_below(thing[1], 2) and is_below(thing[2], total)
    if thing[0] not in FEED_COUNTS or len(thing) != 1 + FEED_COUNTS[thing[0]]:
        return False
    return all([is_below(feed, ahead) for feed in thing[1:]])


class Net:
    """Gates, each fed by gates ahead of it (keep gates by any), and the numbers of those that are outs."""

    def __init__(self, gates, outs):
        for number, gate in enumerate(gates):
            if not is_gate(gate, number, len(gates)):
                raise NoNet(number)
        for out in outs:
            if not is_below(out, len(gates)):
                raise NoNet(-1)
        self.gates = tuple(gates)
        self.outs = tuple(outs)


def ins_of(net):
    """The numbers of the in gates, rising."""
    return [number for number, gate in enumerate(net.gates) if gate[0] == "in"]


def keeps_of(net):
    """The numbers of the keep gates, rising."""
    return [number for number, gate in enumerate(net.gates) if gate[0] == "keep"]


def feeds_of(gate):
    """The numbers of the gates that feed a gate, in order."""
    if gate[0] == "keep":
        return [gate[2]]
    return list(gate[1:])
