"""Whether modules have a sense, and how wide their names and expressions are."""

from bitfloor.errors import NoSense

WIDEST = 16


class Sense:
    """What the rows of one module, as far as they were taken, tell of its names."""

    def __init__(self, above):
        self.above = above
        self.ins = []
        self.wides = {}
        self.uses = {}
        self.keepers = {}
        self.nexts = {}
        self.outs = {}


def is_wide(wide):
    """True for a width that a word of bits may have."""
    return 1 <= wide <= WIDEST


def is_of_width(value, wide):
    """True where the width is one and the value is below 2 to its power."""
    return is_wide(wide) and 0 <= value < 1 << wide


def wide_of(sense, expr):
    """The width of an expression, 0 where it has no sense."""
    word = expr[0]
    if word == "name":
        return sense.wides.get(expr[1], 0)
    if word == "of":
        return wide_of_out(sense, expr[1], expr[2])
    if word == "value":
        return expr[2] if is_of_width(expr[1], expr[2]) else 0
    if word == "part":
        return wide_of_part(wide_of(sense, expr[1]), expr[2], expr[3])
    wides = [wide_of(sense, inner) for inner in expr[1:]]
    if 0 in wides:
        return 0
    return wide_of_word(word, wides)


def wide_of_out(sense, use, out):
    """The width of an out of a used module, 0 where there is none such."""
    if use not in sense.uses:
        return 0
    return sense.uses[use].outs.get(out, 0)


def wide_of_part(whole, low, wide):
    """The width of a part, 0 where it is empty or goes beyond the whole."""
    if wide < 1 or low < 0 or low + wide > whole:
        return 0
    return wide


def wide_of_word(word, wides):
    """The width that a word makes of expressions of these widths, 0 where they do not fit."""
    if word == "not":
        return wides[0]
    if word == "join":
        return sum(wides) if is_wide(sum(wides)) else 0
    if word == "pick":
        return wides[1] if wides[0] == 1 and wides[1] == wides[2] else 0
    if wides[0] != wides[1]:
        return 0
    return 1 if word in ("less", "same") else wides[0]


def is_free(sense, name):
    """True where no in, keep, let or use row has the name yet."""
    return name not in sense.wides and name not in sense.uses


def take_in(sense, row):
    """Take an in row; as of all rows, tells whether it has a sense."""
    if not is_free(sense, row[1]) or not is_wide(row[2]):
        return False
    sense.ins.append((row[1], row[2]))
    sense.wides[row[1]] = row[2]
    return True


def take_keep(sense, row):
    """Take a keep row."""
    if not is_free(sense, row[1]) or not is_of_width(row[3], row[2]):
        return False
    sense.keepers[row[1]] = True
    sense.wides[row[1]] = row[2]
    return True


def take_let(sense, row):
    """Take a let row."""
    wide = wide_of(sense, row[2])
    if not is_free(sense, row[1]) or wide == 0:
        return False
    sense.wides[row[1]] = wide
    return True


def take_use(sense, row):
    """Take a use row."""
    if not is_free(sense, row[1]) or row[2] not in sense.above:
        return False
    used = sense.above[row[2]]
    if [wide_of(sense, expr) for expr in row[3]] != [wide for name, wide in used.ins]:
        return False
    sense.uses[row[1]] = used
    return True


def take_next(sense, row):
    """Take a next row."""
    if row[1] not in sense.keepers or row[1] in sense.nexts:
        return False
    if wide_of(sense, row[2]) != sense.wides[row[1]]:
        return False
    sense.nexts[row[1]] = True
    return True


def take_out(sense, row):
    """Take an out row."""
    wide = wide_of(sense, row[2])
    if row[1] in sense.outs or wide == 0:
        return False
    sense.outs[row[1]] = wide
    return True


TAKERS = {
    "in": take_in,
    "keep": take_keep,
    "let": take_let,
    "use": take_use,
    "next": take_next,
    "out": take_out,
}


def sense_of_module(module, above, line):
    """The sense of a module whose first row has this number, above being those of the modules above it."""
    if module.name in above:
        raise NoSense(line)
    sense = Sense(above)
    for count, row in enumerate(module.rows):
        if not TAKERS[row[0]](sense, row):
            raise NoSense(line + 1 + count)
    if len(sense.nexts) != len(sense.keepers) or len(sense.outs) == 0:
        raise NoSense(line + 1 + len(module.rows))
    return sense


def top_sense(modules):
    """The sense of the last module, when all have one."""
    above = {}
    line = 0
    top = None
    for module in modules:
        top = sense_of_module(module, above, line)
        above[module.name] = top
        line += len(module.rows) + 2
    if top is None:
        raise NoSense(-1)
    return top


def ask_sense(modules):
    """Refuse modules that have no sense."""
    top_sense(modules)


def faces(modules):
    """The pair of the lists of pairs (name, wide) of the last module's in rows and of its out rows."""
    top = top_sense(modules)
    return (list(top.ins), list(top.outs.items()))
