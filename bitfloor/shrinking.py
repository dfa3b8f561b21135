"""Nets made small, with a paper that shows for each gate what it became and why."""

from bitfloor.nets import Net, feeds_of

TWO_SIDED = ("and", "or", "xor")


class Shrinker:
    """The gates that are still wanted, each laid once; keep gates are fed when all are laid."""

    def __init__(self):
        self.gates = []
        self.numbers = {}

    def lay(self, gate):
        """The number of a gate that is laid even if there is one like it."""
        self.gates.append(gate)
        return len(self.gates) - 1

    def gate_like(self, gate):
        """The number of the gate that is the same, its two feeds exchanged or not; laid where there is none."""
        mark = gate
        if gate[0] in TWO_SIDED:
            mark = (gate[0], min(gate[1:]), max(gate[1:]))
        if mark not in self.numbers:
            self.numbers[mark] = self.lay(gate)
        return self.numbers[mark]

    def zero(self):
        """The number of the zero gate."""
        return self.gate_like(("zero",))

    def one(self):
        """The number of the one gate."""
        return self.gate_like(("one",))

    def opposite(self, number):
        """The number of the gate that tells the opposite of one that is no zero or one gate."""
        if self.gates[number][0] == "not":
            return self.gates[number][1]
        return self.gate_like(("not", number))

    def is_zero(self, number):
        """True for the zero gate's number."""
        return self.gates[number] == ("zero",)

    def is_one(self, number):
        """True for the one gate's number."""
        return self.gates[number] == ("one",)

    def are_opposed(self, number, other):
        """True where one of both is the not of the other."""
        return self.gates[number] == ("not", other) or self.gates[other] == ("not", number)


def plain_pair(shrinker, gate):
    """The pair (number, why) of a gate that can not be made smaller."""
    number = shrinker.gate_like(gate)
    return (number, "same" if shrinker.gates[number] == gate else "turned")


def not_pair(shrinker, x):
    """The pair of a not."""
    if shrinker.is_zero(x):
        return (shrinker.one(), "one")
    if shrinker.is_one(x):
        return (shrinker.zero(), "zero")
    if shrinker.gates[x][0] == "not":
        return (shrinker.opposite(x), "inner")
    return plain_pair(shrinker, ("not", x))


def and_pair(shrinker, x, y):
    """The pair of an and."""
    if shrinker.is_one(y) or x == y:
        return (x, "first")
    if shrinker.is_one(x):
        return (y, "second")
    if shrinker.is_zero(x) or shrinker.is_zero(y) or shrinker.are_opposed(x, y):
        return (shrinker.zero(), "zero")
    return plain_pair(shrinker, ("and", x, y))


def or_pair(shrinker, x, y):
    """The pair of an or."""
    if shrinker.is_zero(y) or x == y:
        return (x, "first")
    if shrinker.is_zero(x):
        return (y, "second")
    if shrinker.is_one(x) or shrinker.is_one(y) or shrinker.are_opposed(x, y):
        return (shrinker.one(), "one")
    return plain_pair(shrinker, ("or", x, y))


def xor_pair(shrinker, x, y):
    """The pair of a xor."""
    if shrinker.is_zero(y):
        return (x, "first")
    if shrinker.is_zero(x):
        return (y, "second")
    if x == y:
        return (shrinker.zero(), "zero")
    if shrinker.are_opposed(x, y):
        return (shrinker.one(), "one")
    if shrinker.is_one(y):
        return (shrinker.opposite(x), "not")
    if shrinker.is_one(x):
        return (shrinker.opposite(y), "not")
    return plain_pair(shrinker, ("xor", x, y))


def pick_pair(shrinker, x, y, z):
    """The pair of a pick."""
    if shrinker.is_one(x) or y == z:
        return (y, "second")
    if shrinker.is_zero(x):
        return (z, "third")
    if shrinker.is_one(y) and shrinker.is_zero(z):
        return (x, "first")
    if shrinker.is_zero(y) and shrinker.is_one(z):
        return (shrinker.opposite(x), "not")
    return plain_pair(shrinker, ("pick", x, y, z))


def gate_pair(shrinker, gate, feeds):
    """The pair of a gate that is no in or keep gate, fed by these numbers."""
    if gate[0] == "not":
        return not_pair(shrinker, feeds[0])
    if gate[0] == "and":
        return and_pair(shrinker, feeds[0], feeds[1])
    if gate[0] == "or":
        return or_pair(shrinker, feeds[0], feeds[1])
    if gate[0] == "xor":
        return xor_pair(shrinker, feeds[0], feeds[1])
    if gate[0] == "pick":
        return pick_pair(shrinker, feeds[0], feeds[1], feeds[2])
    return plain_pair(shrinker, gate)


def shrunk(net):
    """The list of the gates that are left, and the list of pairs (number, why) of the net's gates."""
    shrinker = Shrinker()
    pairs = []
    for gate in net.gates:
        if gate[0] in ("in", "keep"):
            pairs.append((shrinker.lay(gate), gate[0]))
        else:
            pairs.append(gate_pair(shrinker, gate, [pairs[feed][0] for feed in feeds_of(gate)]))
    for gate, pair in zip(net.gates, pairs):
        if gate[0] == "keep":
            shrinker.gates[pair[0]] = ("keep", gate[1], pairs[gate[2]][0])
    return (shrinker.gates, pairs)


def wanted_of(gates, outs):
    """The dict of the numbers that lead to an out, by keep gates too, and of the in gates."""
    wanted = {}
    for number, gate in enumerate(gates):
        if gate[0] == "in":
            wanted[number] = True
    waiting = list(outs)
    while len(waiting) > 0:
        number = waiting.pop()
        if number not in wanted:
            wanted[number] = True
            waiting.extend(feeds_of(gates[number]))
    return wanted


def renumbered(gate, places):
    """The same gate with its feeds' new numbers."""
    feeds = [places[feed] for feed in feeds_of(gate)]
    if gate[0] == "keep":
        return ("keep", gate[1], feeds[0])
    return tuple([gate[0]] + feeds)


def made_small(net):
    """The pair of the small net and its paper of shrinking."""
    made = shrunk(net)
    gates = made[0]
    pairs = made[1]
    wanted = wanted_of(gates, [pairs[out][0] for out in net.outs])
    kept = [number for number in range(len(gates)) if number in wanted]
    lost = [number for number in range(len(gates)) if number not in wanted]
    places = {}
    for place, number in enumerate(kept + lost):
        places[number] = place
    small = Net([renumbered(gates[number], places) for number in kept], [places[pairs[out][0]] for out in net.outs])
    lost_gates = [renumbered(gates[number], places) for number in lost]
    return (small, (lost_gates, [(places[number], why) for number, why in pairs]))
