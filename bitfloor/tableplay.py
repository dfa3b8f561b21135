"""Tables played beat by beat."""

from bitfloor.kinds import ask_bits
from bitfloor.tables import table_bit


class TablePlayer:
    """Tables in play."""

    def __init__(self, tables):
        self.ins = tables.ins
        self.tables = tables.tables
        self.keeps = tables.keeps
        self.outs = tables.outs
        self.kept = [first for first, place in tables.keeps]

    def beat(self, row):
        """The list of the outs' bits when the ins are fed so; then the keeps take what their places have."""
        ask_bits(row, self.ins)
        had = {"in": list(row), "keep": self.kept, "table": []}
        for leaves, bits in self.tables:
            had["table"].append(table_bit(bits, [had[word][number] for word, number in leaves]))
        self.kept = [had[place[0]][place[1]] for first, place in self.keeps]
        return [had[word][number] for word, number in self.outs]

    def held(self):
        """The list of the keeps' bits now."""
        return list(self.kept)
