"""Packs: tables that each have a block of their own, kept or not."""

from bitfloor.errors import NoPack
from bitfloor.kinds import is_below, is_listed, is_place, is_whole
from bitfloor.tables import is_table

# the source of a choice that nobody drives; a pack has none such, a board has
SILENCE = ("none", 0)


def is_block(thing, counts):
    """True for a tuple of at most four sources, the bits for all that these can have, kept and first."""
    if not isinstance(thing, tuple) or len(thing) != 4 or not is_table(thing[:2], counts):
        return False
    return is_below(thing[2], 2) and is_below(thing[3], thing[2] + 1)


def loose_sources(blocks, number):
    """The blocks that are not kept among the sources of a block."""
    return [other for word, other in blocks[number][0] if word == "block" and blocks[other][2] == 0]


def loose_order(blocks):
    """The blocks that are not kept, each behind those that feed it; what a ring leads to is not among them."""
    loose = [number for number, block in enumerate(blocks) if block[2] == 0]
    wants = dict([(number, len(loose_sources(blocks, number))) for number in loose])
    fed = dict([(number, []) for number in loose])
    for number in loose:
        for source in loose_sources(blocks, number):
            fed[source].append(number)
    ready = [number for number in loose if wants[number] == 0]
    order = []
    while len(ready) > 0:
        number = ready.pop()
        order.append(number)
        for other in fed[number]:
            wants[other] = wants[other] - 1
            if wants[other] == 0:
                ready.append(other)
    return order


def has_ring(blocks):
    """True where blocks that are not kept feed one another in a ring."""
    return len(loose_order(blocks)) != len([block for block in blocks if block[2] == 0])


def ask_pack(ins, blocks, outs):
    """Refuse what is not blocks and outs with so many ins."""
    if not is_whole(ins) or ins < 0:
        raise NoPack("the number of ins is none")
    if not is_listed(blocks) or not is_listed(outs):
        raise NoPack("blocks and outs are lists")
    counts = {"in": ins, "block": len(blocks)}
    if not all([is_block(block, counts) for block in blocks]):
        raise NoPack("a block is not as told")
    if not all([is_place(out, counts) for out in outs]):
        raise NoPack("an out is no source")
    if has_ring(blocks):
        raise NoPack("blocks that are not kept feed one another in a ring")


class Pack:
    """Blocks, each fed by ins and blocks, and the outs."""

    def __init__(self, ins, blocks, outs):
        ask_pack(ins, blocks, outs)
        self.ins = ins
        self.blocks = tuple([(tuple(sources), bits, kept, first) for sources, bits, kept, first in blocks])
        self.outs = tuple(outs)
