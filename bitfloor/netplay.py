"""Nets played beat by beat."""

from bitfloor.errors import NoRow
from bitfloor.kinds import ask_bits
from bitfloor.nets import feeds_of, ins_of, keeps_of
from bitfloor.rowbits import gate_bits


class NetPlayer:
    """A net in play."""

    def __init__(self, net):
        self.gates = net.gates
        self.outs = net.outs
        self.ins = ins_of(net)
        self.keeps = keeps_of(net)
        self.kept = [net.gates[number][1] for number in self.keeps]
        self.bits = None

    def beat(self, row):
        """The list of the outs' bits when the in gates are fed so; then the keep gates take what feeds them."""
        ask_bits(row, len(self.ins))
        bits = [0] * len(self.gates)
        sources = dict(list(zip(self.ins, row)) + list(zip(self.keeps, self.kept)))
        for number, gate in enumerate(self.gates):
            if number in sources:
                bits[number] = sources[number]
            else:
                bits[number] = gate_bits(gate[0], [bits[feed] for feed in feeds_of(gate)], 1)
        self.bits = bits
        self.kept = [bits[self.gates[number][2]] for number in self.keeps]
        return [bits[out] for out in self.outs]

    def bits_now(self):
        """The list of all gates' bits at the last beat."""
        if self.bits is None:
            raise NoRow("there was no beat yet")
        return list(self.bits)

    def held(self):
        """The list of the keep gates' bits now."""
        return list(self.kept)
