"""Packs played beat by beat."""

from bitfloor.kinds import ask_bits
from bitfloor.packs import SILENCE, loose_order
from bitfloor.tables import table_bit


def block_bit(block, had):
    """The bit that a block's table tells by the bits that ins and blocks have."""
    return table_bit(block[1], [had[word][number] for word, number in block[0]])


class BlockPlayer:
    """Blocks in play, those of a pack or those of a board's cells."""

    def __init__(self, ins, blocks, outs):
        self.ins = ins
        self.blocks = blocks
        self.outs = outs
        self.order = loose_order(blocks)
        self.kept = dict([(number, block[3]) for number, block in enumerate(blocks) if block[2] == 1])

    def beat(self, row):
        """The list of the outs' bits when the ins are fed so; then the kept blocks take what their tables tell."""
        ask_bits(row, self.ins)
        had = {"in": list(row), "block": dict(self.kept), SILENCE[0]: [0]}
        for number in self.order:
            had["block"][number] = block_bit(self.blocks[number], had)
        self.kept = dict([(number, block_bit(self.blocks[number], had)) for number in self.kept])
        return [had[word][number] for word, number in self.outs]

    def held(self):
        """The list of the kept blocks' bits now, by blocks."""
        return list(self.kept.values())


class PackPlayer(BlockPlayer):
    """A pack in play."""

    def __init__(self, pack):
        BlockPlayer.__init__(self, pack.ins, pack.blocks, pack.outs)
