"""Rows of bits played beat by beat."""

import unittest

from bitfloor.bitplay import BitPlayer
from bitfloor.bitwriting import bits_row
from bitfloor.errors import NoBits, NoRow
from bitfloor.packplay import PackPlayer
from plainboard import random_boards
from samples import HAND_BITS, bits_of, led_cases, random_bits

SIZES = (2, 2, 2)


class BitPlayerTest(unittest.TestCase):
    def test_by_hand(self):
        # block 0 is the not of the in, block 1 keeps the xor of both, 1 at first; outs are block 1 and the in
        player = BitPlayer(HAND_BITS)
        self.assertEqual(player.held(), [1])
        self.assertEqual(player.beat([0]), [1, 0])
        self.assertEqual(player.held(), [1])
        self.assertEqual(player.beat((1,)), [1, 1])
        self.assertIs(type(player.beat([1])), list)
        self.assertIs(type(player.held()), list)

    def test_against_packs(self):
        kept = 0
        for number, (pack, floor, places, ways) in enumerate(led_cases(120)):
            one = PackPlayer(pack)
            other = BitPlayer(bits_row(pack, floor, places, ways))
            order = sorted((places[block], block) for block in range(len(places)) if pack.blocks[block][2])
            blocks = [block for block in range(len(places)) if pack.blocks[block][2]]
            for row in random_bits(number, 15, pack.ins):
                held = dict(zip(blocks, one.held()))
                self.assertEqual(other.held(), [held[block] for cell, block in order])
                self.assertEqual(one.beat(row), other.beat(row))
            kept += len(blocks)
        self.assertGreater(kept, 200)

    def test_against_plain_boards(self):
        for number, (bits, board) in enumerate(random_boards(150, 3000)):
            player = BitPlayer(bits)
            rows = random_bits(number, 10, board.ins)
            for row, (outs, held) in zip(rows, board.play(rows)):
                self.assertEqual(player.beat(row), outs)
                self.assertEqual(player.held(), held)

    def test_undriven_strands_and_choices_of_none(self):
        # cell 0 tells 1 where all its choices have 0, and drives the pad left of it, which is the out
        table = "1" + "0" * 15
        for choices in ([], [3], [8, 7, 6, 5], [0, 0, 0, 4]):
            row = bits_of(SIZES, 0, 1, {0: {"table": table, "drives": [(0, 0)], "choices": choices}}, {0: ((), 1)})
            self.assertEqual(BitPlayer(row).beat([]), [1])
        for choice in (0, 2):
            row = bits_of(SIZES, 0, 1, {0: {"table": table, "drives": [(0, 0)]}}, {0: ((), choice)})
            self.assertEqual(BitPlayer(row).beat([]), [0])

    def test_the_choices_in_order(self):
        # cell 0 of one, with pads 0 to 2 left, above and right as ins and pad 3 below as the out
        for place in range(16):
            table = "".join("1" if number == place else "0" for number in range(16))
            cell = {"table": table, "choices": [1, 3, 2], "drives": [(3, 0)]}
            row = bits_of((1, 1, 1), 3, 1, {0: cell}, {0: ((0,), 0), 1: ((0,), 0), 2: ((0,), 0), 3: ((), 1)})
            player = BitPlayer(row)
            for number in range(8):
                self.assertEqual(player.beat([number % 2, number // 2 % 2, number // 4]), [int(number == place)])

    def test_kept_cells_by_rows(self):
        cells = {number: {"kept": 1, "first": number % 2, "table": "1" * 16} for number in (0, 1, 3, 4, 5)}
        player = BitPlayer(bits_of((2, 3, 1), cells=cells))
        self.assertEqual(player.held(), [0, 1, 1, 0, 1])
        self.assertEqual(player.beat([]), [])
        self.assertEqual(player.held(), [1] * 5)

    def test_kept_cells_tell_what_they_hold(self):
        # two kept cells that hand what they hold to one another
        cells = {0: {"kept": 1, "first": 1, "table": "01" * 8, "drives": [(1, 0), (0, 0)], "choices": [4]},
                 1: {"kept": 1, "first": 0, "table": "01" * 8, "drives": [(0, 1)], "choices": [1]}}
        player = BitPlayer(bits_of(SIZES, 0, 1, cells, {0: ((), 1)}))
        self.assertEqual([player.beat([])[0] for count in range(6)], [1, 0, 1, 0, 1, 0])

    def test_first_bits_of_cells_that_are_not_kept(self):
        for first in (0, 1):
            cell = {"first": first, "table": "0" * 16, "drives": [(0, 0)]}
            player = BitPlayer(bits_of(SIZES, 0, 1, {0: cell}, {0: ((), 1)}))
            self.assertEqual(player.held(), [])
            self.assertEqual(player.beat([]), [0])
            self.assertEqual(player.held(), [])

    def test_outs_fed_by_ins(self):
        # pad 0 and pad 1, left of both rows, are ins; pads 2 and 3, above both columns, are outs
        cells = {0: {"joins": [(0, 0, 2)]}, 2: {"joins": [(1, 0, 1)]}, 3: {"joins": [(1, 0, 2)]}, 1: {"joins": [(1, 2, 3)]}}
        row = bits_of(SIZES, 2, 2, cells, {0: ((0,), 0), 1: ((1,), 0), 2: ((), 1), 3: ((), 2)})
        player = BitPlayer(row)
        for one in range(2):
            for other in range(2):
                self.assertEqual(player.beat([one, other]), [one, other])

    def test_rows_that_do_not_fit(self):
        player = BitPlayer(HAND_BITS)
        player.beat([1])
        held = player.held()
        for row in ([], [0, 1], [2], [-1], [True], [False], [None], ["0"], [[0]], (), "0", "1", 0, None, [10 ** 30]):
            with self.assertRaises(NoRow) as caught:
                player.beat(row)
            self.assertIs(type(caught.exception), NoRow)
            self.assertEqual(player.held(), held)
        self.assertEqual(player.beat([0]), [held[0], 0])

    def test_two_players_of_one_row(self):
        one = BitPlayer(bits_of((1, 1, 1), cells={0: {"kept": 1, "table": "1" * 16}}))
        other = BitPlayer(bits_of((1, 1, 1), cells={0: {"kept": 1, "table": "1" * 16}}))
        one.beat([])
        self.assertEqual((one.held(), other.held()), ([1], [0]))
        other.beat([])
        self.assertEqual(other.held(), [1])

    def test_what_is_told_is_the_askers_own(self):
        player = BitPlayer(HAND_BITS)
        row = [1]
        player.held().append(5)
        player.beat(row).append(5)
        row.append(7)
        self.assertEqual(len(player.held()), 1)
        self.assertEqual(len(player.beat([1])), 2)

    def test_refused_as_boards(self):
        for bits, why in ((HAND_BITS[:-1], "length"), ("x", "sign"), (bits_of((0, 1, 1)), "floor")):
            with self.assertRaises(NoBits) as caught:
                BitPlayer(bits)
            self.assertEqual(caught.exception.why, why)


if __name__ == "__main__":
    unittest.main()
