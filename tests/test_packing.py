"""Tables packed to blocks, and papers of packing."""

import random
import unittest

from bitfloor.fitting import fitted
from bitfloor.packing import pack_holds, packed
from bitfloor.packplay import PackPlayer
from bitfloor.packs import Pack
from bitfloor.tableplay import TablePlayer
from bitfloor.tables import Tables
from samples import STRANGE, exchanged, lists_in, random_bits, random_tables, wide_net, with_kind

# tables 1 and 4 lead nowhere but to keeps, 5 to nothing at all; 0 feeds keep 0's table, 2 is an out
TABLES = Tables(
    2,
    [([("in", 0)], 1), ([("table", 0), ("keep", 1), ("in", 1)], 150), ([("in", 0), ("in", 0)], 9), ([], 1),
     ([("table", 3), ("keep", 0)], 6), ([("table", 1), ("table", 4)], 8)],
    [(1, ("table", 1)), (0, ("table", 1)), (1, ("in", 1)), (0, ("keep", 2)), (1, ("keep", 4)), (0, ("table", 4))],
    [("table", 2), ("in", 1), ("keep", 3), ("table", 2)],
)
BLOCKS = [
    ([("block", 6), ("block", 1), ("in", 1)], 150, 1, 1), ([("block", 6), ("block", 1), ("in", 1)], 150, 1, 0),
    ([("in", 1)], 2, 1, 1), ([("block", 2)], 2, 1, 0), ([("block", 4)], 2, 1, 1),
    ([("block", 8), ("block", 0)], 6, 1, 0),
    ([("in", 0)], 1, 0, 0), ([("in", 0), ("in", 0)], 9, 0, 0), ([], 1, 0, 0),
]
OUTS = [("block", 7), ("in", 1), ("block", 3), ("block", 7)]
PAPER = [("keep", 0), ("keep", 1), ("keep", 2), ("keep", 3), ("keep", 4), ("keep", 5), ("table", 0), ("table", 2),
         ("table", 3)]


def tupled(blocks):
    """The blocks as a pack has them."""
    return tuple((tuple(block[0]),) + tuple(block[1:]) for block in blocks)


def plain_blocks(tables):
    """The blocks and the paper by the document's words."""
    keeps = []
    for first, place in tables.keeps:
        leaves, bits = tables.tables[place[1]] if place[0] == "table" else ((place,), 2)
        keeps.append((leaves, bits, 1, first))
    wanted = {out for out in tables.outs if out[0] == "table"}
    while True:
        sources = [leaf for block in keeps for leaf in block[0]]
        sources += [leaf for place in wanted for leaf in tables.tables[place[1]][0]]
        more = wanted | {leaf for leaf in sources if leaf[0] == "table"}
        if more == wanted:
            break
        wanted = more
    paper = [("keep", number) for number in range(len(keeps))] + sorted(wanted)
    blocks = keeps + [tables.tables[place[1]] + (0, 0) for place in sorted(wanted)]

    def source(place):
        return place if place[0] == "in" else ("block", paper.index(place))

    return tupled([([source(leaf) for leaf in block[0]],) + block[1:] for block in blocks]), paper


class PackedTest(unittest.TestCase):
    def assert_plays(self, tables, pack):
        one = TablePlayer(tables)
        other = PackPlayer(pack)
        for row in random_bits(len(pack.blocks), 12, tables.ins):
            self.assertEqual(one.held(), other.held())
            self.assertEqual(one.beat(row), other.beat(row))
        self.assertEqual(one.held(), other.held())

    def test_by_hand(self):
        told = packed(TABLES)
        self.assertIsInstance(told, tuple)
        pack, paper = told
        self.assertIsInstance(pack, Pack)
        self.assertEqual((pack.ins, pack.blocks, pack.outs), (2, tupled(BLOCKS), tuple(OUTS)))
        self.assertEqual((type(paper), paper), (list, PAPER))
        self.assert_plays(TABLES, pack)

    def test_nothing(self):
        pack, paper = packed(Tables(3, [([], 1)], [], []))
        self.assertEqual((pack.ins, pack.blocks, pack.outs, paper), (3, (), (), []))

    def test_a_table_that_a_keep_and_an_out_have(self):
        tables = Tables(1, [([("in", 0)], 1)], [(0, ("table", 0))], [("table", 0), ("keep", 0)])
        pack, paper = packed(tables)
        self.assertEqual(pack.blocks, (((("in", 0),), 1, 1, 0), ((("in", 0),), 1, 0, 0)))
        self.assertEqual((pack.outs, paper), ((("block", 1), ("block", 0)), [("keep", 0), ("table", 0)]))

    def test_a_table_that_tables_need_and_a_keep_has(self):
        tables = Tables(1, [([("in", 0)], 1), ([("table", 0)], 1)], [(0, ("table", 0)), (0, ("table", 1))], [])
        pack, paper = packed(tables)
        self.assertEqual(pack.blocks, (((("in", 0),), 1, 1, 0), ((("block", 2),), 1, 1, 0), ((("in", 0),), 1, 0, 0)))
        self.assertEqual(paper, [("keep", 0), ("keep", 1), ("table", 0)])

    def test_many_tables(self):
        for seed in range(200):
            tables = random_tables(seed)
            pack, paper = packed(tables)
            self.assertEqual((pack.blocks, paper), plain_blocks(tables))
            self.assertEqual((pack.ins, len(pack.outs)), (tables.ins, len(tables.outs)))
            self.assert_plays(tables, pack)
            self.assertIs(pack_holds(tables, pack, paper), True)

    def test_fitted_tables(self):
        for seed in range(20):
            tables = fitted(wide_net(seed, 8, 60))[0]
            pack, paper = packed(tables)
            self.assert_plays(tables, pack)
            self.assertIs(pack_holds(tables, pack, paper), True)

    def test_a_long_row(self):
        rows = [([("in", 0)], 1)] + [([("table", number), ("table", number)], 7) for number in range(1500)]
        pack, paper = packed(Tables(1, rows, [], [("table", 1500)]))
        self.assertEqual(PackPlayer(pack).beat([1]), [0])
        self.assertEqual(len(paper), 1501)

    def test_what_is_told_is_the_askers_own(self):
        told = packed(TABLES)
        self.assertEqual(len(lists_in(told)), 1)
        told[1].clear()
        self.assertEqual(packed(TABLES)[1], PAPER)


class HoldsTest(unittest.TestCase):
    def assert_holds(self, taken, blocks=None, outs=None, paper=None, ins=2):
        pack = Pack(ins, BLOCKS if blocks is None else blocks, OUTS if outs is None else outs)
        self.assertIs(pack_holds(TABLES, pack, PAPER if paper is None else paper), taken)

    def block_with(self, number, place, thing):
        """The blocks with another thing at a place of a block."""
        block = BLOCKS[number]
        return BLOCKS[:number] + [block[:place] + (thing,) + block[place + 1:]] + BLOCKS[number + 1:]

    def test_as_it_is(self):
        for kind in (list, tuple):
            self.assert_holds(True, paper=with_kind(PAPER, kind))

    def test_ins_and_outs(self):
        self.assert_holds(False, ins=3)
        for outs in (OUTS[:-1], OUTS + OUTS[-1:], [], OUTS[::-1], [("block", 6)] + OUTS[1:], [("in", 1)] + OUTS[1:]):
            self.assert_holds(False, outs=outs)
        for place, source in ((1, ("in", 0)), (1, ("block", 7)), (2, ("block", 2)), (2, ("block", 6)), (2, ("in", 1))):
            self.assert_holds(False, outs=OUTS[:place] + [source] + OUTS[place + 1:])
        self.assertIs(pack_holds(TABLES, Pack(1, [], []), []), False)

    def test_bits(self):
        for number, block in enumerate(BLOCKS):
            for place in range(2 ** len(block[0])):
                self.assert_holds(False, self.block_with(number, 1, block[1] ^ 1 << place))

    def test_kept_and_first(self):
        for number in range(6):
            self.assert_holds(False, self.block_with(number, 3, 1 - BLOCKS[number][3]))
        for number in (2, 3):
            block = BLOCKS[number]
            self.assert_holds(False, BLOCKS[:number] + [block[:2] + (0, 0)] + BLOCKS[number + 1:])
        for number in (6, 7, 8):
            for first in (0, 1):
                block = BLOCKS[number]
                self.assert_holds(False, BLOCKS[:number] + [block[:2] + (1, first)] + BLOCKS[number + 1:])

    def test_sources(self):
        self.assert_holds(False, self.block_with(0, 0, [("block", 6), ("block", 0), ("in", 1)]))
        self.assert_holds(False, self.block_with(0, 0, [("block", 1), ("block", 6), ("in", 1)]))
        self.assert_holds(False, self.block_with(0, 0, [("block", 6), ("block", 1), ("in", 0)]))
        self.assert_holds(False, self.block_with(0, 0, [("block", 7), ("block", 1), ("in", 1)]))
        self.assert_holds(False, self.block_with(2, 0, [("in", 0)]))
        self.assert_holds(False, self.block_with(3, 0, [("block", 3)]))
        self.assert_holds(False, self.block_with(3, 0, [("block", 6)]))
        self.assert_holds(False, self.block_with(4, 0, [("block", 3)]))
        self.assert_holds(False, self.block_with(6, 0, [("in", 1)]))
        self.assert_holds(False, self.block_with(7, 0, [("in", 0), ("in", 1)]))

    def test_fewer_or_more_sources_with_bits_that_tell_the_same(self):
        seven = BLOCKS[:7] + [([("in", 0)], 3, 0, 0)] + BLOCKS[8:]
        self.assert_holds(False, seven)
        eight = BLOCKS[:8] + [([("in", 0)], 3, 0, 0)]
        self.assert_holds(False, eight)
        two = BLOCKS[:2] + [([("in", 1), ("in", 1)], 8, 1, 1)] + BLOCKS[3:]
        self.assert_holds(False, two)

    def test_a_keep_fed_by_its_table_s_own_block(self):
        tables = Tables(1, [([("in", 0)], 1)], [(0, ("table", 0))], [("keep", 0), ("table", 0)])
        paper = [("keep", 0), ("table", 0)]
        for block, taken in ((([("in", 0)], 1, 1, 0), True), (([("block", 1)], 2, 1, 0), False)):
            pack = Pack(1, [block, ([("in", 0)], 1, 0, 0)], [("block", 0), ("block", 1)])
            self.assertIs(pack_holds(tables, pack, paper), taken)

    def test_blocks_that_nothing_needs(self):
        more = [([("block", 6), ("block", 1), ("in", 1)], 150, 0, 0)]
        self.assert_holds(True, BLOCKS + more, paper=PAPER + [("table", 1)])
        self.assert_holds(False, BLOCKS + more, paper=PAPER + [("table", 4)])
        more.append(([("block", 8), ("block", 0)], 6, 0, 0))
        more.append(([("block", 9), ("block", 10)], 8, 0, 0))
        self.assert_holds(True, BLOCKS + more, paper=PAPER + [("table", 1), ("table", 4), ("table", 5)])
        more[2] = ([("block", 0), ("block", 10)], 8, 0, 0)
        self.assert_holds(False, BLOCKS + more, paper=PAPER + [("table", 1), ("table", 4), ("table", 5)])

    def test_two_blocks_for_one(self):
        self.assert_holds(False, BLOCKS + BLOCKS[6:7], paper=PAPER + [("table", 0)])
        self.assert_holds(False, BLOCKS + BLOCKS[2:3], paper=PAPER + [("keep", 2)])
        self.assert_holds(False, BLOCKS + BLOCKS[8:], paper=PAPER + [["table", 3]])

    def test_a_keep_without_a_block(self):
        # keep 4 feeds nothing but itself
        blocks = BLOCKS[:4] + BLOCKS[5:]
        moved = [([(word, number - (word == "block" and number > 4)) for word, number in block[0]],) + block[1:]
                 for block in blocks]
        outs = [("block", 6), ("in", 1), ("block", 3), ("block", 6)]
        self.assert_holds(False, moved, outs=outs, paper=PAPER[:4] + PAPER[5:])
        tables = Tables(1, [], [(0, ("in", 0))], [])
        self.assertIs(pack_holds(tables, Pack(1, [], []), []), False)
        self.assertIs(pack_holds(tables, Pack(1, [([("in", 0)], 2, 1, 0)], []), [("keep", 0)]), True)

    def test_blocks_in_another_order(self):
        order = [8, 3, 0, 7, 5, 2, 6, 1, 4]
        blocks = [([(word, order.index(number) if word == "block" else number) for word, number in BLOCKS[old][0]],)
                  + BLOCKS[old][1:] for old in order]
        outs = [(word, order.index(number) if word == "block" else number) for word, number in OUTS]
        self.assert_holds(True, blocks, outs=outs, paper=[PAPER[old] for old in order])
        self.assert_holds(False, blocks, outs=outs)

    def test_papers_that_are_none(self):
        for paper in (PAPER[:-1], PAPER + [("table", 1)], [], PAPER[::-1], PAPER[1:] + PAPER[:1]):
            self.assert_holds(False, paper=paper)
        for number in range(len(PAPER)):
            for place in [("keep", k) for k in range(-1, 8)] + [("table", k) for k in range(-1, 8)]:
                paper = PAPER[:number] + [place] + PAPER[number + 1:]
                self.assert_holds(place == PAPER[number], paper=paper)

    def test_wrong_forms(self):
        for strange in STRANGE + (None, [], (), 0, 2, "keep0", ("keep", 0, 0), ("block", 0), ("keep", [0]), ([], [])):
            for paper in exchanged(PAPER, strange):
                taken = paper == PAPER and not isinstance(strange, bool)
                self.assertIs(pack_holds(TABLES, Pack(2, BLOCKS, OUTS), paper), taken, paper)
        self.assertIs(pack_holds(Tables(0, [], [], []), Pack(0, [], []), ()), True)
        for strange in STRANGE + (None, 0, [[]]):
            self.assertIs(pack_holds(Tables(0, [], [], []), Pack(0, [], []), strange), False)
        one = Tables(1, [([], 0)] * 2, [], [("table", 1)])
        self.assertIs(pack_holds(one, Pack(1, [([], 0, 0, 0)], [("block", 0)]), [("table", 1)]), True)
        self.assertIs(pack_holds(one, Pack(1, [([], 0, 0, 0)], [("block", 0)]), [("table", True)]), False)
        self.assertIs(pack_holds(one, Pack(1, [([], 0, 0, 0)], [("block", 0)]), [("table", 0)]), False)

    def test_what_holds_tells_the_same(self):
        source = random.Random(4)
        told = []
        for seed in range(80):
            tables = random_tables(seed, 8)
            pack, paper = packed(tables)
            for count in range(12 if pack.blocks else 0):
                other = self.changed(source, pack)
                answer = other is not None and pack_holds(tables, other, paper)
                told.append(answer)
                same = other is not None and (other.blocks, other.outs) == (pack.blocks, pack.outs)
                self.assertIs(answer, same)
        self.assertGreater(told.count(True), 50)
        self.assertGreater(told.count(False), 300)

    def changed(self, source, pack):
        """The pack with one thing changed, None where there is no such pack."""
        blocks = [list(block) for block in pack.blocks]
        number = source.randrange(len(blocks))
        sources = list(blocks[number][0])
        ends = [("in", place) for place in range(pack.ins)] + [("block", place) for place in range(len(blocks))]
        outs = list(pack.outs)
        kind = source.randrange(4)
        if kind == 0 and sources:
            sources[source.randrange(len(sources))] = source.choice(ends)
            blocks[number][0] = sources
        elif kind == 1:
            blocks[number][1] ^= 1 << source.randrange(2 ** len(sources))
        elif kind == 2 and outs:
            outs[source.randrange(len(outs))] = source.choice(ends)
        elif kind == 3 and blocks[number][2]:
            blocks[number][3] = source.randrange(2)
        try:
            return Pack(pack.ins, [tuple(block) for block in blocks], outs)
        except ValueError:
            return None


if __name__ == "__main__":
    unittest.main()
