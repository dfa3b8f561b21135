"""Tables in play."""

import random
import unittest

from bitfloor.errors import NoRow
from bitfloor.tableplay import TablePlayer
from bitfloor.tables import Tables
from samples import random_bits, random_tables

BAD_BITS = (2, -1, True, False, None, "0", "1", [0], (1,), 10 ** 30)


class BeatTest(unittest.TestCase):
    def test_a_table_tells_its_bits(self):
        source = random.Random(3)
        for count in range(5):
            for bits in {0, 1, 2, 2 ** 2 ** count - 1, source.randrange(2 ** 2 ** count), 6, 27030}:
                if bits >= 2 ** 2 ** count:
                    continue
                player = TablePlayer(Tables(count, [([("in", place) for place in range(count)], bits)], [],
                                            [("table", 0)]))
                for number in range(2 ** count):
                    row = [number // 2 ** place % 2 for place in range(count)]
                    self.assertEqual(player.beat(row), [bits // 2 ** number % 2], (bits, row))

    def test_leaves_in_their_order(self):
        # 1 only where leaf 0 has 1 and leaf 1 has 0
        player = TablePlayer(Tables(2, [([("in", 0), ("in", 1)], 2), ([("in", 1), ("in", 0)], 2)], [],
                                    [("table", 0), ("table", 1)]))
        self.assertEqual([player.beat(row) for row in ([0, 0], [1, 0], [0, 1], [1, 1])],
                         [[0, 0], [1, 0], [0, 1], [0, 0]])

    def test_a_leaf_that_stands_twice(self):
        player = TablePlayer(Tables(1, [([("in", 0), ("in", 0)], 6), ([("in", 0), ("in", 0)], 9)], [],
                                    [("table", 0), ("table", 1)]))
        self.assertEqual([player.beat([bit]) for bit in (0, 1)], [[0, 1], [0, 1]])

    def test_tables_without_leaves_and_outs_of_every_sort(self):
        player = TablePlayer(Tables(2, [([], 0), ([], 1)], [(1, ("in", 1))],
                                    [("table", 1), ("in", 1), ("keep", 0), ("table", 0), ("in", 0), ("in", 1)]))
        self.assertEqual(player.beat([1, 0]), [1, 0, 1, 0, 1, 0])
        self.assertEqual(player.beat((0, 1)), [1, 1, 0, 0, 0, 1])

    def test_keeps_take_when_all_is_told(self):
        # keeps 0 and 1 exchange what they hold, 2 takes the in, 3 holds on, 4 turns at each beat
        keeps = [(1, ("keep", 1)), (0, ("keep", 0)), (0, ("in", 0)), (1, ("keep", 3)), (0, ("table", 0))]
        player = TablePlayer(Tables(1, [([("keep", 4)], 1)], keeps, [("keep", place) for place in range(5)]))
        self.assertEqual(player.held(), [1, 0, 0, 1, 0])
        self.assertEqual(player.beat([1]), [1, 0, 0, 1, 0])
        self.assertEqual(player.held(), [0, 1, 1, 1, 1])
        self.assertEqual(player.beat([0]), [0, 1, 1, 1, 1])
        self.assertEqual(player.beat([0]), [1, 0, 0, 1, 0])
        self.assertEqual(player.held(), [0, 1, 0, 1, 1])

    def test_many_beats_of_many_tables(self):
        for seed in range(40):
            tables = random_tables(seed)
            player = TablePlayer(tables)
            held = [first for first, place in tables.keeps]
            for row in random_bits(seed, 15, tables.ins):
                had = {("in", place): bit for place, bit in enumerate(row)}
                had.update({("keep", place): bit for place, bit in enumerate(held)})
                for number, (leaves, bits) in enumerate(tables.tables):
                    chosen = "".join(str(had[leaf]) for leaf in reversed(leaves))
                    had["table", number] = int(format(bits, "b").zfill(16)[-1 - int(chosen or "0", 2)])
                self.assertEqual(player.held(), held)
                self.assertEqual(player.beat(row), [had[out] for out in tables.outs])
                held = [had[place] for first, place in tables.keeps]
            self.assertEqual(player.held(), held)

    def test_nothing(self):
        player = TablePlayer(Tables(0, [], [], []))
        self.assertEqual((player.beat([]), player.beat(()), player.held()), ([], [], []))


class AloneTest(unittest.TestCase):
    def test_rows_that_are_none_change_nothing(self):
        player = TablePlayer(Tables(2, [], [(0, ("in", 0))], [("keep", 0)]))
        player.beat([1, 0])
        rows = [[], [1], [1, 1, 1], (), (0,)] + [[0, bad] for bad in BAD_BITS] + [(bad, 1) for bad in BAD_BITS]
        for row in rows:
            with self.assertRaises(NoRow, msg=str(row)):
                player.beat(row)
            self.assertEqual(player.held(), [1])
        self.assertEqual(player.beat([0, 0]), [1])

    def test_a_row_for_very_many_ins(self):
        with self.assertRaises(NoRow):
            TablePlayer(Tables(10 ** 30, [], [], [])).beat([0, 1])

    def test_what_is_told_and_handed_in_may_be_changed(self):
        player = TablePlayer(Tables(1, [], [(1, ("in", 0))], [("in", 0), ("keep", 0)]))
        row = [0]
        told = player.beat(row)
        row[0] = 1
        told.clear()
        player.held()[0] = 1
        self.assertEqual(player.held(), [0])
        earlier = player.held()
        self.assertEqual(player.beat([1]), [1, 0])
        self.assertEqual((earlier, player.held()), ([0], [1]))

    def test_two_players_do_not_meddle(self):
        tables = Tables(0, [([("keep", 0)], 1)], [(0, ("table", 0))], [("keep", 0)])
        one = TablePlayer(tables)
        other = TablePlayer(tables)
        one.beat([])
        self.assertEqual((one.held(), other.held()), ([1], [0]))
        self.assertEqual((one.beat([]), other.beat([])), ([1], [0]))


if __name__ == "__main__":
    unittest.main()
