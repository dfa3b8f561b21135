"""Modules raised to a net of gates, and rows of values turned into bits and back."""

from bitfloor.kinds import ask_bits, ask_values
from bitfloor.nets import Net
from bitfloor.sense import ask_sense


class Rig:
    """The gates of a net as they are laid one by one; words of bits are lists of their numbers, least bit first."""

    def __init__(self):
        self.gates = []
        self.constants = {}

    def lay(self, gate):
        """The number of a gate that is laid behind the others."""
        self.gates.append(gate)
        return len(self.gates) - 1

    def constant(self, bit):
        """The number of the one gate that tells this bit always."""
        if bit not in self.constants:
            self.constants[bit] = self.lay(("one",) if bit == 1 else ("zero",))
        return self.constants[bit]

    def feed_keeper(self, numbers, bits):
        """Let the keep gates with these numbers be fed by these bits."""
        for number, bit in zip(numbers, bits):
            self.gates[number] = ("keep", self.gates[number][1], bit)


def bit_list(value, wide):
    """The bits of a value of this width, least bit first."""
    return [(value >> place) % 2 for place in range(wide)]


def lay_not(rig, sides):
    """A not for each bit."""
    return [rig.lay(("not", bit)) for bit in sides[0]]


def lay_pairs(rig, word, sides):
    """A gate of this word for each two bits."""
    return [rig.lay((word, one, other)) for one, other in zip(sides[0], sides[1])]


def lay_and(rig, sides):
    """An and for each two bits."""
    return lay_pairs(rig, "and", sides)


def lay_or(rig, sides):
    """An or for each two bits."""
    return lay_pairs(rig, "or", sides)


def lay_xor(rig, sides):
    """A xor for each two bits."""
    return lay_pairs(rig, "xor", sides)


def lay_plus(rig, sides):
    """The sum's bits; where two bits are unlike the carry goes on, else it becomes what both are."""
    unlike = lay_xor(rig, sides)
    bits = [unlike[0]]
    carry = None
    for place in range(1, len(unlike)):
        below = place - 1
        if carry is None:
            carry = rig.lay(("and", sides[0][below], sides[1][below]))
        else:
            carry = rig.lay(("pick", unlike[below], carry, sides[0][below]))
        bits.append(rig.lay(("xor", unlike[place], carry)))
    return bits


def lay_less(rig, sides):
    """One bit; the greatest place at which both are unlike tells which is less."""
    less = rig.lay(("and", rig.lay(("not", sides[0][0])), sides[1][0]))
    for place in range(1, len(sides[0])):
        unlike = rig.lay(("xor", sides[0][place], sides[1][place]))
        less = rig.lay(("pick", unlike, sides[1][place], less))
    return [less]


def lay_same(rig, sides):
    """One bit, 1 where no place is unlike."""
    unlike = lay_xor(rig, sides)
    some = unlike[0]
    for bit in unlike[1:]:
        some = rig.lay(("or", some, bit))
    return [rig.lay(("not", some))]


def lay_pick(rig, sides):
    """A pick for each two bits."""
    return [rig.lay(("pick", sides[0][0], one, other)) for one, other in zip(sides[1], sides[2])]


def lay_join(rig, sides):
    """The second one's bits below the first one's; no gate is needed."""
    return sides[1] + sides[0]


LAYERS = {
    "not": lay_not,
    "and": lay_and,
    "or": lay_or,
    "xor": lay_xor,
    "plus": lay_plus,
    "less": lay_less,
    "same": lay_same,
    "pick": lay_pick,
    "join": lay_join,
}


def lay_expr(rig, expr, named, used):
    """The bits of an expression, named and used having those of names and of used modules' outs."""
    word = expr[0]
    if word == "name":
        return named[expr[1]]
    if word == "of":
        return used[expr[1]][expr[2]]
    if word == "value":
        return [rig.constant(bit) for bit in bit_list(expr[1], expr[2])]
    if word == "part":
        return lay_expr(rig, expr[1], named, used)[expr[2]:expr[2] + expr[3]]
    return LAYERS[word](rig, [lay_expr(rig, inner, named, used) for inner in expr[1:]])


def lay_keepers(rig, name, modules):
    """Lay the keep gates of a module and of all it uses: a pair of dicts, its keepers' bits and its uses' pairs."""
    kept = {}
    inner = {}
    for row in modules[name].rows:
        if row[0] == "keep":
            kept[row[1]] = [rig.lay(("keep", first, 0)) for first in bit_list(row[3], row[2])]
    for row in modules[name].rows:
        if row[0] == "use":
            inner[row[1]] = lay_keepers(rig, row[2], modules)
    return (kept, inner)


def lay_module(rig, name, modules, keepers, fed):
    """Lay the gates of a module fed with a list of words of bits: the dict of its outs' bits."""
    named = dict(keepers[0])
    used = {}
    outs = {}
    waiting = list(fed)
    for row in modules[name].rows:
        if row[0] == "in":
            named[row[1]] = waiting.pop(0)
        elif row[0] == "let":
            named[row[1]] = lay_expr(rig, row[2], named, used)
        elif row[0] == "use":
            inner_fed = [lay_expr(rig, expr, named, used) for expr in row[3]]
            used[row[1]] = lay_module(rig, row[2], modules, keepers[1][row[1]], inner_fed)
        elif row[0] == "next":
            rig.feed_keeper(named[row[1]], lay_expr(rig, row[2], named, used))
        elif row[0] == "out":
            outs[row[1]] = lay_expr(rig, row[2], named, used)
    return outs


def raised(modules):
    """The net that tells what the modules' top one tells, bit by bit."""
    ask_sense(modules)
    by_name = {}
    for module in modules:
        by_name[module.name] = module
    top = modules[-1]
    rig = Rig()
    fed = []
    for row in top.rows:
        if row[0] == "in":
            fed.append([rig.lay(("in",)) for place in range(row[2])])
    keepers = lay_keepers(rig, top.name, by_name)
    outs = []
    for bits in lay_module(rig, top.name, by_name, keepers, fed).values():
        outs.extend(bits)
    return Net(rig.gates, outs)


def bits_of_row(faces_side, row):
    """The bits of a row of values, one value behind the other, each from its least bit up."""
    ask_values(row, [wide for name, wide in faces_side])
    bits = []
    for value, face in zip(row, faces_side):
        bits.extend(bit_list(value, face[1]))
    return bits


def row_of_bits(faces_side, bits):
    """The row of values that these bits are."""
    ask_bits(bits, sum([wide for name, wide in faces_side]))
    row = []
    begin = 0
    for name, wide in faces_side:
        value = 0
        for bit in reversed(bits[begin:begin + wide]):
            value = 2 * value + bit
        row.append(value)
        begin += wide
    return row
