"""Modules played by their words: what each beat tells and what the keepers hold."""

from bitfloor.kinds import ask_values
from bitfloor.sense import faces


def not_value(sides):
    """Each bit turned."""
    return ((1 << sides[0][1]) - 1 - sides[0][0], sides[0][1])


def and_value(sides):
    """Bit by bit, 1 where both are."""
    return (sides[0][0] & sides[1][0], sides[0][1])


def or_value(sides):
    """Bit by bit, 1 where one is."""
    return (sides[0][0] | sides[1][0], sides[0][1])


def xor_value(sides):
    """Bit by bit, 1 where just one is."""
    return (sides[0][0] ^ sides[1][0], sides[0][1])


def plus_value(sides):
    """The sum, without what goes beyond the width."""
    return ((sides[0][0] + sides[1][0]) % (1 << sides[0][1]), sides[0][1])


def less_value(sides):
    """1 where the first is less."""
    return (1 if sides[0][0] < sides[1][0] else 0, 1)


def same_value(sides):
    """1 where both are alike."""
    return (1 if sides[0][0] == sides[1][0] else 0, 1)


def pick_value(sides):
    """The second where the first is 1, else the third."""
    return sides[1] if sides[0][0] == 1 else sides[2]


def join_value(sides):
    """The first one's bits above the second one's."""
    return ((sides[0][0] << sides[1][1]) + sides[1][0], sides[0][1] + sides[1][1])


VALUES = {
    "not": not_value,
    "and": and_value,
    "or": or_value,
    "xor": xor_value,
    "plus": plus_value,
    "less": less_value,
    "same": same_value,
    "pick": pick_value,
    "join": join_value,
}


def value_of(expr, named, used):
    """The pair (value, wide) of an expression, named and used having those of names and of used modules' outs."""
    word = expr[0]
    if word == "name":
        return named[expr[1]]
    if word == "of":
        return used[expr[1]][expr[2]]
    if word == "value":
        return (expr[1], expr[2])
    if word == "part":
        whole = value_of(expr[1], named, used)[0]
        return ((whole >> expr[2]) % (1 << expr[3]), expr[3])
    return VALUES[word]([value_of(inner, named, used) for inner in expr[1:]])


class Stage:
    """One module in play, with keepers of its own and a stage for each of its use rows."""

    def __init__(self, name, modules):
        self.rows = modules[name].rows
        self.kept = {}
        self.inner = {}
        self.coming = {}
        for row in self.rows:
            if row[0] == "keep":
                self.kept[row[1]] = (row[3], row[2])
            elif row[0] == "use":
                self.inner[row[1]] = Stage(row[2], modules)

    def tell(self, fed):
        """The dict of the outs' pairs (value, wide) when it is fed so; no keeper moves yet."""
        named = dict(self.kept)
        used = {}
        outs = {}
        waiting = list(fed)
        for row in self.rows:
            if row[0] == "in":
                named[row[1]] = (waiting.pop(0), row[2])
            elif row[0] == "let":
                named[row[1]] = value_of(row[2], named, used)
            elif row[0] == "use":
                inner_fed = [value_of(expr, named, used)[0] for expr in row[3]]
                used[row[1]] = self.inner[row[1]].tell(inner_fed)
            elif row[0] == "next":
                self.coming[row[1]] = value_of(row[2], named, used)
            elif row[0] == "out":
                outs[row[1]] = value_of(row[2], named, used)
        return outs

    def move(self):
        """Let every keeper take what its next row told."""
        self.kept.update(self.coming)
        for stage in self.inner.values():
            stage.move()

    def paths(self, ahead):
        """The list of pairs (path, value) of all keepers, ahead being the path to this stage."""
        pairs = [(ahead + (name,), pair[0]) for name, pair in self.kept.items()]
        for name, stage in self.inner.items():
            pairs.extend(stage.paths(ahead + (name,)))
        return pairs


class Scene:
    """The top module in play."""

    def __init__(self, modules):
        # faces comes first, as it refuses modules that have no sense
        self.wides = [wide for name, wide in faces(modules)[0]]
        by_name = {}
        for module in modules:
            by_name[module.name] = module
        self.stage = Stage(modules[-1].name, by_name)

    def beat(self, row):
        """The list of the outs' values when the ins are fed so; then the keepers move."""
        ask_values(row, self.wides)
        outs = self.stage.tell(row)
        self.stage.move()
        return [value for value, wide in outs.values()]

    def held(self):
        """The list of pairs (path, value) of all keepers."""
        return self.stage.paths(())
