"""Nets fitted to tables."""

import unittest

from bitfloor.fitting import fitted
from bitfloor.layers import layers_of
from bitfloor.netplay import NetPlayer
from bitfloor.nets import Net, ins_of, keeps_of
from bitfloor.raising import raised
from bitfloor.reading import read_modules
from bitfloor.shrinking import made_small
from bitfloor.tableplay import TablePlayer
from bitfloor.tables import Tables, depth_of
from samples import TextMaker, lists_in, random_bits, random_net, wide_net

IN = ("in",)


class FittedTest(unittest.TestCase):
    def assert_fitted(self, net, beats=12):
        """Its tables play what the net plays, each table what its gate has, and are no deeper than the layers."""
        tables, paper = fitted(net)
        ins = ins_of(net)
        keeps = keeps_of(net)
        self.assertIsInstance(tables, Tables)
        self.assertEqual(type(paper), list)
        self.assertEqual(len(paper), len(tables.tables))
        self.assertEqual((tables.ins, len(tables.keeps), len(tables.outs)), (len(ins), len(keeps), len(net.outs)))
        gates = {("in", count): number for count, number in enumerate(ins)}
        gates.update({("keep", count): number for count, number in enumerate(keeps)})
        gates.update({("table", count): number for count, number in enumerate(paper)})
        self.assertEqual([gates[out] for out in tables.outs], list(net.outs))
        self.assertEqual([(first, gates[place]) for first, place in tables.keeps],
                         [net.gates[number][1:] for number in keeps])
        layers = layers_of(net)[0]
        ends = list(net.outs) + [net.gates[number][2] for number in keeps]
        self.assertEqual(depth_of(tables), max([layers[number] for number in ends], default=0))
        watched = Tables(tables.ins, tables.tables, tables.keeps, [("table", k) for k in range(len(paper))])
        self.assert_plays(net, tables, TablePlayer(watched), paper, beats)
        return tables, paper

    def assert_plays(self, net, tables, watcher, paper, beats):
        player = TablePlayer(tables)
        net_player = NetPlayer(net)
        for row in random_bits(beats, beats, tables.ins):
            self.assertEqual(player.held(), net_player.held())
            self.assertEqual(player.beat(row), net_player.beat(row))
            bits = net_player.bits_now()
            self.assertEqual(watcher.beat(row), [bits[number] for number in paper])
        self.assertEqual(player.held(), net_player.held())

    def test_many_nets(self):
        deepest = 0
        for seed in range(120):
            self.assert_fitted(random_net(seed, 5 + seed, 1 + seed % 8))
            tables = self.assert_fitted(wide_net(seed, seed % 13, 5 + seed % 70))[0]
            deepest = max(deepest, depth_of(tables))
        self.assertGreater(deepest, 4)

    def test_raised_and_small_nets(self):
        for seed in range(25):
            net = raised(read_modules(TextMaker(seed, 2).text()))
            small = made_small(net)[0]
            self.assert_fitted(small)
            if len(net.gates) < 200:
                self.assert_fitted(net)

    def test_every_row_of_a_whole_small_net(self):
        gates = [IN] * 5 + [("and", 0, 1), ("pick", 2, 5, 3), ("xor", 6, 4), ("not", 7)]
        net = Net(gates, [7, 8, 6])
        tables = self.assert_fitted(net)[0]
        self.assertEqual(depth_of(tables), 2)
        for number in range(32):
            row = [number >> place & 1 for place in range(5)]
            self.assertEqual(TablePlayer(tables).beat(row), NetPlayer(net).beat(row))

    def test_without_ins_and_without_outs(self):
        self.assertEqual(self.assert_fitted(Net([], []))[1], [])
        self.assertEqual(self.assert_fitted(Net([IN, ("not", 0)], []))[1], [])
        self.assertEqual(self.assert_fitted(Net([("zero",), ("one",), ("not", 0)], []))[1], [])
        tables, paper = self.assert_fitted(Net([("keep", 0, 1), ("not", 0)], [0]))
        self.assertEqual((tables.ins, tables.tables, tables.keeps, tables.outs),
                         (0, (((("keep", 0),), 1),), ((0, ("table", 0)),), (("keep", 0),)))
        self.assertEqual(paper, [1])

    def test_outs_and_keeps_that_are_fed_by_sources(self):
        net = Net([IN, ("keep", 1, 0), ("keep", 0, 1), ("keep", 1, 3), IN, ("keep", 0, 4)], [4, 3, 0, 0, 5])
        tables, paper = self.assert_fitted(net)
        self.assertEqual((tables.tables, paper, depth_of(tables)), ((), [], 0))
        self.assertEqual(tables.keeps, ((1, ("in", 0)), (0, ("keep", 0)), (1, ("keep", 2)), (0, ("in", 1))))
        self.assertEqual(tables.outs, (("in", 1), ("keep", 2), ("in", 0), ("in", 0), ("keep", 3)))

    def test_outs_and_keeps_that_are_fed_by_zero_and_one_gates(self):
        net = Net([("one",), ("keep", 0, 0), ("zero",), ("keep", 1, 2), ("not", 2)], [2, 4, 0, 1])
        tables, paper = self.assert_fitted(net)
        self.assertEqual(sorted(paper), [0, 2, 4])
        self.assertEqual(depth_of(tables), 1)
        self.assertEqual(self.assert_fitted(Net([("one",), ("keep", 0, 0)], [1]))[1], [0])

    def test_the_depth_counts_gates_that_are_wanted_alone(self):
        gates = [IN] * 5 + [("and", 0, 1), ("and", 5, 2), ("and", 6, 3), ("and", 7, 4)]
        for outs, keep, depth in (([7], 5, 1), ([8], 5, 2), ([7], 8, 2), ([0], 9, 0), ([], 8, 2), ([8, 7], 0, 2)):
            net = Net(gates + [("keep", 0, keep)], outs)
            self.assertEqual(depth_of(self.assert_fitted(net)[0]), depth)

    def test_no_tables_but_those_that_are_wanted(self):
        for seed in range(30):
            tables = fitted(wide_net(seed, 8, 50))[0]
            used = [place for leaves, bits in tables.tables for place in leaves]
            used += [place for first, place in tables.keeps] + list(tables.outs)
            self.assertTrue(all(("table", number) in used for number in range(len(tables.tables))))

    def test_a_net_of_a_hundred_and_fifty_gates(self):
        self.assert_fitted(wide_net(1, 20, 130))
        self.assert_fitted(Net([IN] * 75 + [("xor", 0, 1)] + [("xor", 73 + k, k) for k in range(2, 75)], [148]))

    def test_what_is_told_is_the_askers_own(self):
        net = wide_net(4, 6, 40)
        gates = net.gates
        told = fitted(net)
        again = fitted(net)
        self.assertEqual(len(lists_in(told)), 1)
        self.assertGreater(len(again[1]), 0)
        told[1].clear()
        third = fitted(net)
        self.assertEqual((third[1], third[0].tables), (again[1], again[0].tables))
        self.assertEqual(net.gates, gates)


if __name__ == "__main__":
    unittest.main()
