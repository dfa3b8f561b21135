"""Modules, nets and rows for the tests, made by a seeded source so that each run has the same ones."""

import random

from bitfloor.errors import NoRoom, NoWays
from bitfloor.floors import Floor
from bitfloor.leading import led
from bitfloor.nets import Net
from bitfloor.packs import Pack
from bitfloor.placing import placed
from bitfloor.tables import Tables

TWO_SIDED = ("and", "or", "xor")


class TextMaker:
    """Makes texts of modules that have a sense."""

    def __init__(self, seed, widest=16):
        self.source = random.Random(seed)
        self.widest = widest
        self.faces = {}

    def value(self, wide):
        most = 2 ** wide - 1
        return self.source.choice((0, most, self.source.randint(0, most))), wide

    def expr(self, wide, named, depth):
        """The text of an expression of this width; named are pairs (text, wide)."""
        fitting = [text for text, other in named if other == wide]
        if depth == 0 or self.source.random() < 0.2:
            if fitting and self.source.random() < 0.8:
                return self.source.choice(fitting)
            return "{}:{}".format(*self.value(wide))
        words = ["not", "and", "or", "xor", "plus", "pick", "part"]
        words += ["join"] * (wide > 1) + ["less", "same"] * 2 * (wide == 1)
        word = self.source.choice(words)
        if word == "part":
            whole = self.source.randint(wide, self.widest)
            low = self.source.randint(0, whole - wide)
            return f"(part {self.expr(whole, named, depth - 1)} {low} {wide})"
        if word == "join":
            above = self.source.randint(1, wide - 1)
            wides = (above, wide - above)
        elif word == "pick":
            wides = (1, wide, wide)
        elif word in ("less", "same"):
            wides = (self.source.randint(1, self.widest),) * 2
        else:
            wides = (wide,) * (1 if word == "not" else 2)
        return "(" + " ".join([word] + [self.expr(inner, named, depth - 1) for inner in wides]) + ")"

    def module(self, name, used):
        rows = ["module " + name]
        ins = []
        named = []
        keepers = []
        for count in range(self.source.randint(0, 3)):
            ins.append(("i" + "abc"[count], self.source.randint(1, self.widest)))
            rows.append("in {} {}".format(*ins[-1]))
        named.extend(ins)
        for count in range(self.source.randint(0, 3)):
            first, wide = self.value(self.source.randint(1, self.widest))
            keepers.append(("k" + "abc"[count], wide))
            rows.append(f"keep k{'abc'[count]} {wide} {first}")
        named.extend(keepers)
        for count in range(self.source.randint(0, 4)):
            mark = "abcd"[count]
            if used and self.source.random() < 0.5:
                module = self.source.choice(used)
                exprs = [self.expr(wide, named, 2) for wide in self.faces[module][0]]
                rows.append(" ".join(["use u" + mark, module] + exprs))
                named.extend(("u" + mark + "." + out, wide) for out, wide in self.faces[module][1])
            else:
                wide = self.source.randint(1, self.widest)
                rows.append(f"let l{mark} {self.expr(wide, named, 3)}")
                named.append(("l" + mark, wide))
        rows.extend(f"next {keeper} {self.expr(wide, named, 3)}" for keeper, wide in reversed(keepers))
        outs = [("o" + "abc"[count], self.source.randint(1, self.widest)) for count in range(self.source.randint(1, 3))]
        rows.extend(f"out {out} {self.expr(wide, named, 3)}" for out, wide in outs)
        self.faces[name] = ([wide for in_name, wide in ins], outs)
        return rows + ["end"]

    def text(self):
        rows = []
        names = ["low", "mid", "high", "top"][:self.source.randint(1, 4)]
        for count, name in enumerate(names):
            rows.extend(self.module(name, names[:count]))
        return "\n".join(rows)

    def row(self, wides):
        return [self.value(wide)[0] for wide in wides]


def random_net(seed, count, ins=3):
    """A net with so many gates of every word."""
    source = random.Random(seed)
    gates = []
    words = ["zero", "one", "not", "not", "and", "or", "xor", "pick", "pick", "keep"]
    for number in range(count):
        word = source.choice(words)
        if number == 0 or (number < 3 * ins and number % 3 == 0):
            word = "in"
        feeds = [source.randrange(max(0, number - 12), number) for place in range(3)] if number else []
        if word in ("in", "zero", "one"):
            gates.append((word,))
        elif word == "not":
            gates.append((word, feeds[0]))
        elif word == "keep":
            gates.append((word, source.randint(0, 1), source.randrange(count)))
        elif word == "pick":
            gates.append((word, feeds[0], feeds[1], feeds[2]))
        else:
            gates.append((word, feeds[0], feeds[1]))
    outs = [source.randrange(count) for place in range(source.randint(0, 4))]
    return Net(gates, outs)


def random_bits(seed, beats, count):
    """So many rows of so many bits."""
    source = random.Random(seed)
    return [[source.randint(0, 1) for place in range(count)] for beat in range(beats)]


def wide_net(seed, sources, count):
    """A net of in and keep gates first and so many gates behind them, few of them zero and one gates or sources."""
    source = random.Random(seed)
    total = sources + count
    gates = []
    for number in range(total):
        word = source.choice(["not"] + ["and", "or", "xor", "pick"] * 4 + ["zero", "one", "in", "keep"])
        if number < sources or number == 0:
            word = source.choice(("in", "in", "keep"))
        feeds = [source.randrange(max(0, number - 9), number) for place in range(3)] if number else []
        if word in ("in", "zero", "one"):
            gates.append((word,))
        elif word == "keep":
            gates.append((word, source.randint(0, 1), source.randrange(total)))
        else:
            gates.append((word,) + tuple(feeds[:{"not": 1, "pick": 3}.get(word, 2)]))
    return Net(gates, [source.randrange(total) for place in range(source.randint(0, 4))])


# things that stand for nothing in any paper
STRANGE = (
    True, False, -1, 10 ** 30, "", "0", "in", "keep", "table", [None], [True], [[]], [-1], ["0"], (None, None), ([], 0),
    [[[]]], ("in",), ("in", True), (0, 1, 2, 3, 4, 5, 6, 7, 8),
)


def exchanged(thing, strange):
    """All that comes of a paper when one thing within it, however deep, is exchanged for a strange one."""
    yield strange
    if isinstance(thing, (list, tuple)):
        for place, inner in enumerate(thing):
            for other in exchanged(inner, strange):
                yield type(thing)(list(thing[:place]) + [other] + list(thing[place + 1:]))


def with_kind(thing, kind):
    """The same paper made of lists or of tuples alone."""
    if isinstance(thing, (list, tuple)):
        return kind([with_kind(inner, kind) for inner in thing])
    return thing


def same_papers(one, other):
    """Whether two papers are the same, lists and tuples being alike and True and False no numbers."""
    return repr(with_kind(one, list)) == repr(with_kind(other, list))


def lists_in(thing):
    """All lists within a thing, itself among them."""
    if not isinstance(thing, (list, tuple)):
        return []
    inner = [found for part in thing for found in lists_in(part)]
    return inner + [thing] if isinstance(thing, list) else inner


def rows_down(net, gate):
    """All rows of gates from a gate down to a source, walked plainly."""
    word = net.gates[gate][0]
    if word in ("in", "keep"):
        return [[gate]]
    return [[gate] + row for feed in net.gates[gate][1:] for row in rows_down(net, feed)]


def plainly_shut(net, gates, gate):
    """Whether each row down to a source has one of the gates."""
    return all(any(number in gates for number in row) for row in rows_down(net, gate))


def random_tables(seed, most=25):
    """Tables of every number of leaves, with keeps and outs."""
    source = random.Random(seed)
    ins = source.randint(0, 4)
    keeps = source.randint(0 if ins else 1, 4)
    places = [("in", place) for place in range(ins)] + [("keep", place) for place in range(keeps)]
    tables = []
    for number in range(source.randint(0, most)):
        leaves = [source.choice(places) for place in range(source.randint(0, 4))]
        tables.append((leaves, source.randrange(2 ** 2 ** len(leaves))))
        places.append(("table", number))
    return Tables(
        ins, tables, [(source.randint(0, 1), source.choice(places)) for place in range(keeps)],
        [source.choice(places) for place in range(source.randint(0, 5))],
    )


def plain_bits(tables, row, held):
    """The bits of all tables for a row and what the keeps hold."""
    had = {("in", number): bit for number, bit in enumerate(row)}
    had.update((("keep", number), bit) for number, bit in enumerate(held))
    told = []
    for number, (leaves, bits) in enumerate(tables.tables):
        told.append(bits // 2 ** sum(had[leaf] * 2 ** place for place, leaf in enumerate(leaves)) % 2)
        had[("table", number)] = told[-1]
    return told


def random_pack(seed, most=25):
    """Blocks of every number of sources, kept ones fed by any, others fed by later ones too, but never in a ring."""
    source = random.Random(seed)
    ins = source.randint(0, 4)
    count = source.randint(0 if ins else 1, most)
    kept = [source.random() < 0.3 for number in range(count)]
    order = source.sample(range(count), count)
    blocks = []
    for number in range(count):
        free = [other for other in range(count) if kept[number] or kept[other]]
        free += [] if kept[number] else [other for other in order[:order.index(number)] if not kept[other]]
        sources = [("in", place) for place in range(ins)] + [("block", other) for other in free]
        chosen = [source.choice(sources) for place in range(source.randint(0, 4))] if sources else []
        first = source.randint(0, 1) if kept[number] else 0
        blocks.append((chosen, source.randrange(2 ** 2 ** len(chosen)), int(kept[number]), first))
    ends = [("in", place) for place in range(ins)] + [("block", number) for number in range(count)]
    return Pack(ins, blocks, [source.choice(ends) for place in range(source.randint(0, 5))])


# pad 0 is in 0, pads 1 and 2 are the outs; wires of both tracks, and one that is drive and tap at once
HAND_PACK = Pack(1, [([("in", 0)], 1, 0, 0), ([("block", 0), ("in", 0)], 6, 1, 1)], [("block", 1), ("in", 0)])
HAND_FLOOR = Floor(2, 2, 2)
HAND_PLACES = [(0, 0), (1, 1)]
HAND_WAYS = [
    ([("h", 0, -1, 0)], [((0, 0), 0, 1, 0), ((0, 1), 0, 3, 0), ((0, 0), 0, 2, 0)],
     [("h", 0, -1, 0), ("v", 0, 1, 0), ("v", -1, 0, 0)]),
    ([("v", 0, 0, 0)], [((1, 0), 1, 2, 0)], [("h", 1, 0, 0)]),
    ([("h", 1, 0, 1)], [((1, 0), 0, 1, 1)], [("h", 1, -1, 1)]),
]
HAND_BITS = "".join((
    "00000010", "00000010", "00000010", "00000001", "00000010",
    "1010101010101010", "00", "0001", "0000", "0000", "0000", "00000010", "110000", "000000",
    "0" * 16, "00", "0000", "0000", "0000", "0000", "00000000", "001000", "000000",
    "0" * 16, "00", "0000", "0000", "0000", "0000", "00000000", "000100", "100000",
    "0110011001100110", "11", "0001", "0101", "0000", "0000", "01000000", "000000", "000000",
    "1000", "0010", "0001", "0000", "0000", "0000", "0000", "0000",
))


def led_cases(count, most=14):
    """So many packs with floors, places and ways that were found for them."""
    found = []
    seed = 0
    while len(found) < count:
        seed += 1
        source = random.Random(seed)
        pack = random_pack(seed, most)
        side = source.randint(2, 5)
        floor = Floor(side, source.randint(2, 6), source.randint(1, 8))
        try:
            places = placed(pack, floor, source.choice((0, 1, 4, 100)))[0]
            found.append((pack, floor, places, led(pack, floor, places, 30)))
        except (NoRoom, NoWays):
            continue
    return found


def plain_side(box, side, track):
    """The wire of a track at a side of a box."""
    row, column = box
    return [("h", row, column - 1, track), ("h", row, column, track), ("v", row - 1, column, track),
            ("v", row, column, track)][side]


def bits_of(floor, ins=0, outs=0, cells=None, pads=None):
    """A row of bits written plainly.

    Cells has for a cell's number a dict with some of table (a text of sixteen bits), kept, first, choices (a list of
    numbers), drives (a list of pairs of side and track) and joins (a list of tuples of track, side and side); pads has
    for a pad's number a pair of the list of tracks that it drives and its choice.
    """
    def number(value, wide):
        return bin(value)[2:].rjust(wide, "0") if wide else ""

    rows, columns, tracks = floor
    row = "".join(number(value, 8) for value in (rows, columns, tracks, ins, outs))
    wide = len(bin(4 * tracks)[2:]) if tracks else 0
    for spot in range(rows * columns):
        cell = (cells or {}).get(spot, {})
        row += cell.get("table", "0" * 16) + str(cell.get("kept", 0)) + str(cell.get("first", 0))
        choices = list(cell.get("choices", ()))
        row += "".join(number(choice, wide) for choice in choices + [0] * (4 - len(choices)))
        row += "".join(str(int((side, track) in cell.get("drives", ())))
                       for side in range(4) for track in range(tracks))
        row += "".join(str(int((track, low, high) in cell.get("joins", ())))
                       for track in range(tracks) for low in range(4) for high in range(low + 1, 4))
    wide = len(bin(tracks)[2:]) if tracks else 0
    for spot in range(2 * (rows + columns)):
        drives, choice = (pads or {}).get(spot, ((), 0))
        row += "".join(str(int(track in drives)) for track in range(tracks)) + number(choice, wide)
    return row


def bit_by(net, gate, known):
    """A gate's bit from a dict of gates' bits, None where a row down to a source has none of them."""
    if gate in known:
        return known[gate]
    word = net.gates[gate][0]
    if word in ("in", "keep"):
        return None
    fed = [bit_by(net, feed, known) for feed in net.gates[gate][1:]]
    if None in fed:
        return None
    if word in ("zero", "one"):
        return int(word == "one")
    if word == "not":
        return 1 - fed[0]
    if word == "pick":
        return fed[1] if fed[0] else fed[2]
    return {"and": min(fed), "or": max(fed), "xor": sum(fed) % 2}[word]


def plainly_met(one, other, paper, meet):
    """Whether both gates have the same bit for each row of bits at the leaves in which no gate has two."""
    leaves = [paper[leaf] for leaf in meet[2]]
    for row in range(2 ** len(leaves)):
        bits = [row // 2 ** place % 2 for place in range(len(leaves))]
        pairs = [{(leaf[side], bit) for leaf, bit in zip(leaves, bits)} for side in (0, 1)]
        known = [dict(sorted(pair)) for pair in pairs]
        if any(len(pair) != len(gates) for pair, gates in zip(pairs, known)):
            # a gate would have two bits, but what shuts a gate off does not hang on the row
            continue
        told = bit_by(one, meet[0], known[0])
        if told is None or told != bit_by(other, meet[1], known[1]):
            return False
    return True


def rewritten(net, seed):
    """Another net that tells the same, each gate made of others, and the pairs of the gates that have the same bits."""
    source = random.Random(seed)
    gates = []
    numbers = {}
    # keep gates first, in another order, and then the in gates
    keeps = [number for number, gate in enumerate(net.gates) if gate[0] == "keep"]
    for number in source.sample(keeps, len(keeps)):
        numbers[number] = len(gates)
        gates.append(None)

    def lay(*gate):
        gates.append(gate)
        return len(gates) - 1

    def made(gate):
        fed = [numbers[feed] for feed in gate[1:]]
        way = source.randrange(3)
        if way == 0 or gate[0] in ("in", "zero", "one"):
            return lay(gate[0], *fed)
        if gate[0] == "not":
            return lay("pick", fed[0], lay("zero"), lay("one")) if way == 1 else lay("xor", fed[0], lay("one"))
        if gate[0] == "pick":
            chosen = lay("and", fed[0], fed[1])
            if way == 1:
                return lay("or", chosen, lay("and", lay("not", fed[0]), fed[2]))
            return lay("pick", lay("not", fed[0]), fed[2], fed[1])
        if gate[0] == "xor":
            return lay("pick", fed[0], lay("not", fed[1]), fed[1])
        if way == 1:
            return lay(gate[0], fed[1], fed[0])
        turned = {"and": "or", "or": "and"}[gate[0]]
        return lay("not", lay(turned, lay("not", fed[0]), lay("not", fed[1])))

    for number, gate in enumerate(net.gates):
        if gate[0] != "keep":
            numbers[number] = made(gate)
    for number in keeps:
        gates[numbers[number]] = ("keep", net.gates[number][1], numbers[net.gates[number][2]])
    pairs = [(number, numbers[number]) for number in keeps]
    pairs += [(number, numbers[number]) for number in range(len(net.gates)) if number not in keeps]
    return Net(gates, [numbers[out] for out in net.outs]), pairs
