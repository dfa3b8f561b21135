"""Packs and their blocks."""

import unittest

from bitfloor.errors import FloorError, NoPack
from bitfloor.packs import Pack
from samples import random_pack

BLOCKS = (
    ((), 1, 0, 0),
    ((("in", 0),), 2, 1, 1),
    ((("block", 3), ("block", 1)), 15, 0, 0),
    ((("in", 2), ("in", 2), ("block", 0)), 255, 0, 0),
    ((("block", 4), ("block", 2), ("in", 1), ("block", 1)), 65535, 1, 0),
)
OUTS = (("block", 4), ("in", 2), ("block", 0), ("block", 4))

THINGS = (
    None, True, False, 0, 1, -1, 10 ** 30, "", "in", "block", [], (), {}, set(), object(), [("in", 0)], ["in", 0],
    ["block", 0], ("in",), ("in", 0, 0), ("in", None), ("in", True), ("in", False), ("in", -1), ("in", 3),
    ("in", 10 ** 30), ("in", "0"), ("in", [0]), ("in", ("in", 0)), ("block", 5), ("block", -1), ("block", True),
    ("keep", 0), ("table", 0), ("IN", 0), (" in", 0), ("blocks", 0), ("", 0), (None, 0), (0, "in"), (["in"], 0),
    ({}, 0), ([], 0), (0, 0), b"in", "in0", ("i", "n"),
)


def loose(sources):
    """A block that is not kept."""
    return ([("block", source) for source in sources], 0, 0, 0)


def kept(sources):
    """A block that is kept."""
    return ([("block", source) for source in sources], 0, 1, 0)


class MadeTest(unittest.TestCase):
    def test_fields(self):
        for kind in (list, tuple):
            pack = Pack(3, kind([(kind(block[0]),) + block[1:] for block in BLOCKS]), kind(OUTS))
            self.assertEqual((pack.ins, pack.blocks, pack.outs), (3, BLOCKS, OUTS))
            for field in (pack.blocks, pack.outs, [block[0] for block in pack.blocks]):
                self.assertTrue(all(type(part) is tuple for part in field))
            self.assertEqual((type(pack.blocks), type(pack.outs)), (tuple, tuple))

    def test_nothing(self):
        for nothing in ([], ()):
            pack = Pack(0, nothing, nothing)
            self.assertEqual((pack.ins, pack.blocks, pack.outs), (0, (), ()))
        self.assertEqual(Pack(10 ** 9, [], [("in", 10 ** 9 - 1)]).ins, 10 ** 9)

    def test_lists_may_be_changed_later(self):
        sources = [("in", 0), ("block", 0)]
        blocks = [(sources, 6, 1, 1)]
        outs = [("block", 0)]
        pack = Pack(1, blocks, outs)
        for thing in (sources, blocks, outs):
            thing.clear()
        self.assertEqual((pack.blocks, pack.outs), ((((("in", 0), ("block", 0)), 6, 1, 1),), (("block", 0),)))


class RefusedTest(unittest.TestCase):
    def assert_refused(self, ins, blocks, outs):
        with self.assertRaises(NoPack, msg=str((ins, blocks, outs))) as caught:
            Pack(ins, blocks, outs)
        self.assertIs(type(caught.exception), NoPack)
        self.assertIsInstance(caught.exception, FloorError)

    def test_ins(self):
        for ins in (-1, -10 ** 30, None, True, False, "3", "", [], [0, 1, 2], (3,), {}):
            self.assert_refused(ins, [], [])
        for ins in (0, 1, 2):
            self.assert_refused(ins, BLOCKS, OUTS)

    def test_things_that_are_no_lists(self):
        for thing in (None, True, False, 0, 3, -1, "", "in", "blocks", {}, {"in": 0}, object()):
            self.assert_refused(3, thing, [])
            self.assert_refused(3, BLOCKS, thing)
            self.assert_refused(3, [(thing, 1, 0, 0)], [])

    def test_things_that_are_no_blocks(self):
        forms = ([[], 0, 0, 0], ((), 0, 0), ((), 0, 0, 0, 0), ((), 0), (0, (), 0, 0), (("in", 0), 0, 0, 0))
        for thing in THINGS + forms:
            for place in range(len(BLOCKS)):
                self.assert_refused(3, BLOCKS[:place] + (thing,) + BLOCKS[place + 1:], OUTS)
            self.assert_refused(3, [thing], [])

    def test_things_that_are_no_sources(self):
        for thing in THINGS:
            for sources in ([thing], [("in", 0), thing], (thing, ("in", 0), ("in", 1), ("in", 0))):
                for is_kept in (0, 1):
                    self.assert_refused(3, BLOCKS[:4] + ((sources, 0, is_kept, 0),), [])

    def test_outs(self):
        for thing in THINGS:
            self.assert_refused(3, BLOCKS, [thing])
            self.assert_refused(3, BLOCKS, OUTS + (thing,))
            self.assert_refused(3, BLOCKS, (thing,) + OUTS)
        for place in (("in", 2), ("block", 4)):
            self.assertEqual(Pack(3, BLOCKS, [place]).outs, (place,))

    def test_five_sources(self):
        self.assertEqual(len(Pack(1, [([("in", 0)] * 4, 0, 0, 0)], []).blocks), 1)
        for count in (5, 6, 16):
            for is_kept in (0, 1):
                self.assert_refused(1, [([("in", 0)] * count, 0, is_kept, 0)], [])

    def test_bits_beyond(self):
        for count, most in enumerate((1, 3, 15, 255, 65535)):
            sources = [("in", 1), ("block", 0), ("in", 0), ("in", 1)][:count]
            for bits in (0, 1, most):
                self.assertEqual(Pack(2, [(sources, bits, 1, 0)], []).blocks, ((tuple(sources), bits, 1, 0),))
            for bits in (-1, most + 1, 10 ** 30, -10 ** 30, True, False, None, "0", "", [0], (0,), {}, object()):
                self.assert_refused(2, [(sources, bits, 1, 0)], [])

    def test_kept_and_first(self):
        for pair in ((0, 0), (1, 0), (1, 1)):
            self.assertEqual(Pack(0, [((), 0) + pair], []).blocks, (((), 0) + pair,))
        self.assert_refused(0, [((), 0, 0, 1)], [])
        for strange in (2, -1, 10 ** 30, True, False, None, "0", "", [0], (0,), {}, object()):
            self.assert_refused(0, [((), 0, strange, 0)], [])
            self.assert_refused(0, [((), 0, strange, 1)], [])
            self.assert_refused(0, [((), 0, 0, strange)], [])
            self.assert_refused(0, [((), 0, 1, strange)], [])

    def test_rings(self):
        self.assert_refused(0, [loose([0])], [])
        self.assert_refused(0, [loose([]), loose([1])], [])
        self.assert_refused(0, [loose([1]), loose([0])], [])
        self.assert_refused(0, [loose([1]), loose([2]), loose([0])], [])
        self.assert_refused(0, [loose([2]), loose([0]), loose([1])], [])
        self.assert_refused(0, [loose([]), loose([2, 0]), loose([0, 3]), loose([1, 0]), loose([0])], [])
        self.assert_refused(0, [kept([1]), loose([2]), loose([0, 1])], [])
        ring = [loose([(number + 1) % 300]) for number in range(300)]
        self.assert_refused(0, ring, [])
        # what a ring leads to, and what leads to it, does not free it
        self.assert_refused(0, [loose([1, 3]), loose([0]), loose([1]), loose([])], [])

    def test_rings_through_kept_blocks(self):
        for blocks in ([kept([0])], [kept([1]), kept([0])], [kept([1]), loose([0])], [loose([1]), kept([0])],
                       [loose([1]), loose([2]), kept([0])], [kept([0, 1, 2]), kept([0, 1, 2]), loose([0, 1])]):
            self.assertEqual(len(Pack(0, blocks, []).blocks), len(blocks))
        ring = [loose([(number + 1) % 300]) for number in range(299)] + [kept([0])]
        self.assertEqual(len(Pack(0, ring, []).blocks), 300)

    def test_no_ring(self):
        for blocks in ([loose([1]), loose([])], [loose([]), loose([0])], [loose([1, 1, 2]), loose([2, 2]), loose([])],
                       [loose([]), loose([0]), loose([0, 1]), loose([0, 1, 2]), loose([3, 3, 3, 3])]):
            self.assertEqual(len(Pack(0, blocks, []).blocks), len(blocks))
        for seed in range(30):
            self.assertIsInstance(random_pack(seed), Pack)

    def test_a_refusal_leaves_what_was_handed_in(self):
        sources = [("in", 0), ("block", 0)]
        blocks = [(sources, 2, 0, 0)]
        outs = [("in", 0)]
        self.assert_refused(1, blocks, outs)
        self.assertEqual((blocks, outs), ([([("in", 0), ("block", 0)], 2, 0, 0)], [("in", 0)]))


if __name__ == "__main__":
    unittest.main()
