"""Packs in play."""

import unittest

from bitfloor.errors import NoRow
from bitfloor.packplay import PackPlayer
from bitfloor.packs import Pack
from samples import random_bits, random_pack

BAD_BITS = (2, -1, True, False, None, "0", "1", [0], (1,), 10 ** 30)


class BeatTest(unittest.TestCase):
    def test_a_block_tells_its_bits(self):
        for count in range(5):
            for bits in (0, 1, 2, 6, 150, 27030, 65535):
                if bits >= 2 ** 2 ** count:
                    continue
                pack = Pack(count, [([("in", place) for place in range(count)], bits, 0, 0)], [("block", 0)])
                for number in range(2 ** count):
                    row = [number // 2 ** place % 2 for place in range(count)]
                    self.assertEqual(PackPlayer(pack).beat(row), [bits // 2 ** number % 2], (bits, row))

    def test_a_kept_block_tells_what_it_holds(self):
        pack = Pack(1, [([("in", 0)], 2, 1, 1), ([("in", 0)], 2, 0, 0), ([("block", 0)], 1, 1, 0)],
                    [("block", 0), ("block", 1), ("block", 2), ("in", 0)])
        player = PackPlayer(pack)
        self.assertEqual(player.held(), [1, 0])
        self.assertEqual(player.beat([0]), [1, 0, 0, 0])
        self.assertEqual(player.held(), [0, 0])
        self.assertEqual(player.beat([1]), [0, 1, 0, 1])
        self.assertEqual(player.held(), [1, 1])
        self.assertEqual(player.beat([0]), [1, 0, 1, 0])

    def test_kept_blocks_take_when_all_is_told(self):
        # 0 and 3 exchange what they hold, 1 holds on, 2 turns at each beat
        blocks = [([("block", 3)], 2, 1, 1), ([("block", 1)], 2, 1, 1), ([("block", 2)], 1, 1, 0),
                  ([("block", 0)], 2, 1, 0)]
        player = PackPlayer(Pack(0, blocks, [("block", number) for number in range(4)]))
        self.assertEqual(player.held(), [1, 1, 0, 0])
        self.assertEqual(player.beat([]), [1, 1, 0, 0])
        self.assertEqual(player.beat([]), [0, 1, 1, 1])
        self.assertEqual(player.beat([]), [1, 1, 0, 0])
        self.assertEqual(player.held(), [0, 1, 1, 1])

    def test_blocks_fed_by_later_ones(self):
        count = 60
        blocks = [([("block", number + 1)], 1, 0, 0) for number in range(count)] + [([("in", 0)], 2, 0, 0)]
        player = PackPlayer(Pack(1, blocks, [("block", 0), ("block", 1), ("block", count)]))
        self.assertEqual([player.beat([bit]) for bit in (0, 1)], [[0, 1, 0], [1, 0, 1]])

    def test_blocks_without_sources_and_a_source_twice(self):
        blocks = [((), 1, 0, 0), ((), 0, 0, 0), ((), 1, 1, 0), ([("in", 0), ("in", 0)], 6, 0, 0),
                  ([("in", 0), ("in", 0)], 9, 0, 0)]
        player = PackPlayer(Pack(1, blocks, [("block", number) for number in range(5)]))
        self.assertEqual([player.beat([bit]) for bit in (1, 0)], [[1, 0, 0, 0, 1], [1, 0, 1, 0, 1]])

    def test_many_beats_of_many_packs(self):
        for seed in range(60):
            pack = random_pack(seed)
            player = PackPlayer(pack)
            held = {number: block[3] for number, block in enumerate(pack.blocks) if block[2]}
            for row in random_bits(seed, 12, pack.ins):
                self.assertEqual(player.held(), [held[number] for number in sorted(held)])
                had = {("in", place): bit for place, bit in enumerate(row)}
                had.update({("block", number): bit for number, bit in held.items()})

                def told(number):
                    bits = [tells(source) for source in pack.blocks[number][0]]
                    return pack.blocks[number][1] // 2 ** sum(bit * 2 ** place for place, bit in enumerate(bits)) % 2

                def tells(source):
                    return had[source] if source in had else told(source[1])

                self.assertEqual(player.beat(row), [tells(out) for out in pack.outs])
                held = {number: told(number) for number in held}

    def test_nothing(self):
        player = PackPlayer(Pack(0, [], []))
        self.assertEqual((player.beat([]), player.beat(()), player.held()), ([], [], []))


class AloneTest(unittest.TestCase):
    def test_rows_that_are_none_change_nothing(self):
        player = PackPlayer(Pack(2, [([("in", 0)], 2, 1, 0)], [("block", 0)]))
        player.beat([1, 0])
        rows = [[], [1], [1, 1, 1], (), (0,)] + [[0, bad] for bad in BAD_BITS] + [(bad, 1) for bad in BAD_BITS]
        for row in rows:
            with self.assertRaises(NoRow, msg=str(row)):
                player.beat(row)
            self.assertEqual(player.held(), [1])
        self.assertEqual(player.beat([0, 0]), [1])

    def test_what_is_told_and_handed_in_may_be_changed(self):
        player = PackPlayer(Pack(1, [([("in", 0)], 2, 1, 1)], [("in", 0), ("block", 0)]))
        row = [0]
        told = player.beat(row)
        row[0] = 1
        told.clear()
        player.held()[0] = 1
        self.assertEqual(player.held(), [0])
        earlier = player.held()
        self.assertEqual(player.beat([1]), [1, 0])
        self.assertEqual((earlier, player.held()), ([0], [1]))

    def test_two_players_do_not_meddle(self):
        pack = Pack(0, [([("block", 0)], 1, 1, 0)], [("block", 0)])
        one = PackPlayer(pack)
        other = PackPlayer(pack)
        one.beat([])
        self.assertEqual((one.held(), other.held()), ([1], [0]))
        self.assertEqual((one.beat([]), other.beat([])), ([1], [0]))


if __name__ == "__main__":
    unittest.main()
