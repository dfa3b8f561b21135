"""A module: a name and its rows."""


def frozen(thing):
    """The same thing with tuples in the place of lists, so that nobody can change it later."""
    if isinstance(thing, (list, tuple)):
        return tuple([frozen(inner) for inner in thing])
    return thing


class Module:
    """The rows between module and end, a tuple for each."""

    def __init__(self, name, rows):
        self.name = name
        self.rows = frozen(rows)
