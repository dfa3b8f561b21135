"""Tables opened to nets."""

import unittest

from bitfloor.fitting import fitted
from bitfloor.netplay import NetPlayer
from bitfloor.nets import Net, ins_of, keeps_of
from bitfloor.opening import opened_net
from bitfloor.tableplay import TablePlayer
from bitfloor.tables import Tables
from samples import lists_in, plain_bits, random_bits, random_tables, wide_net


class OpenedTest(unittest.TestCase):
    def assert_opened(self, tables, rows):
        told = opened_net(tables)
        self.assertIs(type(told), tuple)
        net, numbers = told
        self.assertIsInstance(net, Net)
        self.assertIs(type(numbers), list)
        self.assertEqual(len(numbers), len(tables.tables))
        self.assertEqual((len(ins_of(net)), len(net.outs)), (tables.ins, len(tables.outs)))
        self.assertEqual([net.gates[number][1] for number in keeps_of(net)], [first for first, place in tables.keeps])
        one = TablePlayer(tables)
        other = NetPlayer(net)
        for row in rows:
            held = one.held()
            self.assertEqual(other.held(), held)
            self.assertEqual(one.beat(row), other.beat(row))
            bits = other.bits_now()
            self.assertEqual([bits[number] for number in numbers], plain_bits(tables, row, held))
        self.assertEqual(one.held(), other.held())
        return told

    def test_every_table_of_two_leaves(self):
        rows = [[0, 0], [0, 1], [1, 0], [1, 1]]
        for bits in range(16):
            tables = Tables(2, [([("in", 0), ("in", 1)], bits)], [], [("table", 0)])
            net = self.assert_opened(tables, rows)[0]
            self.assertEqual([NetPlayer(net).beat(row)[0] for row in rows], [bits >> place & 1 for place in (0, 2, 1, 3)])

    def test_tables_of_0_1_3_and_4_leaves(self):
        for bits in range(2):
            self.assert_opened(Tables(0, [([], bits)], [], [("table", 0)]), [[]])
        for bits in range(4):
            self.assert_opened(Tables(1, [([("in", 0)], bits)], [], [("table", 0)]), [[0], [1]])
        for count in (3, 4):
            rows = [[number >> place & 1 for place in range(count)] for number in range(2 ** count)]
            for bits in (0, 1, 150, 232, 2 ** 2 ** count - 1, 2 ** (2 ** count - 1), 0x6996 % 2 ** 2 ** count, 0xcafe % 256):
                leaves = [("in", place) for place in range(count)]
                self.assert_opened(Tables(count, [(leaves, bits)], [], [("table", 0)]), rows)

    def test_leaves_that_stand_twice(self):
        for bits in range(16):
            tables = Tables(1, [([("in", 0), ("in", 0)], bits)], [(1, ("table", 0))], [("table", 0), ("keep", 0)])
            self.assert_opened(tables, [[0], [1], [1], [0]])

    def test_keeps_of_every_kind_of_place(self):
        tables = Tables(2, [([("keep", 3)], 1)], [(1, ("keep", 1)), (0, ("in", 1)), (1, ("table", 0)), (0, ("keep", 3))],
                        [("keep", 0), ("in", 0), ("keep", 2)])
        self.assert_opened(tables, random_bits(1, 10, 2))

    def test_nothing(self):
        net, numbers = self.assert_opened(Tables(2, [], [], []), [[0, 1]])
        self.assertEqual((net.gates, numbers), ((("in",), ("in",)), []))

    def test_many(self):
        for seed in range(150):
            tables = random_tables(seed)
            self.assert_opened(tables, random_bits(seed, 8, tables.ins))
        for seed in range(15):
            tables = fitted(wide_net(seed, 8, 60))[0]
            self.assert_opened(tables, random_bits(seed, 8, tables.ins))

    def test_a_long_row(self):
        rows = [([("in", 0)], 1)] + [([("table", number)] * 4, 0x7fff) for number in range(300)]
        self.assert_opened(Tables(1, rows, [], [("table", 300)]), [[0], [1]])

    def test_what_is_told_is_the_askers_own(self):
        tables = random_tables(5)
        told = opened_net(tables)
        self.assertEqual(len(lists_in(told)), 1)
        kept = list(told[1])
        told[1].clear()
        self.assertEqual(opened_net(tables)[1], kept)


if __name__ == "__main__":
    unittest.main()
