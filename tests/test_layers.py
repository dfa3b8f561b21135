"""The layers of gates and their papers."""

import itertools
import unittest

from bitfloor.layercheck import layers_hold
from bitfloor.layers import layers_of
from bitfloor.nets import Net
from samples import lists_in, random_net, rows_down, wide_net

IN = ("in",)


def tried_layers(net):
    """The layers by a try of all sets of at most four gates that lead to a gate."""
    layers = [0] * len(net.gates)
    for gate, told in enumerate(net.gates):
        if told[0] in ("in", "keep"):
            continue
        rows = rows_down(net, gate)
        leading = sorted({number for row in rows for number in row} - {gate})
        found = []
        for size in range(5):
            for gates in itertools.combinations(leading, size):
                if all(any(number in gates for number in row) for row in rows):
                    found.append(1 + max([layers[number] for number in gates], default=0))
        layers[gate] = min(found)
    return layers


def chain(ins, word="and"):
    """So many in gates, and each of them in turn together with all those ahead."""
    gates = [IN] * ins + [(word, 0, 1)]
    for number in range(2, ins):
        gates.append((word, len(gates) - 1, number))
    return Net(gates, [len(gates) - 1])


class LayersTest(unittest.TestCase):
    def assert_layers(self, gates, layers):
        net = Net(gates, [])
        told = layers_of(net)
        self.assertEqual(told[0], layers)
        self.assertTrue(layers_hold(net, told[0], told[1]))

    def test_no_gates(self):
        self.assertEqual(layers_of(Net([], [])), ([], []))

    def test_sources(self):
        self.assertEqual(layers_of(Net([IN, ("keep", 0, 1), ("keep", 1, 0)], [0])), ([0, 0, 0], [None, None, None]))

    def test_zero_and_one_gates_and_gates_fed_by_these_alone(self):
        gates = [("zero",), ("one",), ("not", 0), ("and", 1, 2), ("pick", 3, 2, 0), ("keep", 0, 4), ("not", 5)]
        self.assert_layers(gates, [1, 1, 1, 1, 1, 0, 1])
        self.assertEqual(layers_of(Net(gates, []))[1][:6], [([], [])] * 5 + [None])

    def test_a_source_beside_a_zero_gate(self):
        self.assert_layers([("zero",), IN, ("and", 0, 1), ("or", 2, 0), ("pick", 3, 0, 1)], [1, 0, 1, 1, 1])

    def test_chains(self):
        self.assertEqual(layers_of(chain(4))[0], [0] * 4 + [1, 1, 1])
        self.assertEqual(layers_of(chain(5))[0], [0] * 5 + [1, 1, 1, 2])
        self.assertEqual(layers_of(chain(7))[0], [0] * 7 + [1, 1, 1, 2, 2, 2])
        self.assertEqual(layers_of(chain(8))[0], [0] * 8 + [1, 1, 1, 2, 2, 2, 3])
        self.assertEqual(layers_of(chain(11))[0], [0] * 11 + [1, 1, 1, 2, 2, 2, 3, 3, 3, 4])

    def test_four_ins_however_many_gates(self):
        gates = [IN] * 4
        for number in range(4, 40):
            gates.append((("and", "or", "xor")[number % 3], number - 1, number - 4))
        self.assert_layers(gates, [0] * 4 + [1] * 36)

    def test_four_gates_of_a_lesser_layer_just_shut_off(self):
        # gates 16 to 27: four times a gate of four ins; then these together, two by two
        gates = [IN] * 16
        for first in (0, 4, 8, 12):
            gates += [("and", first, first + 1), ("or", first + 2, first + 3), ("xor", len(gates), len(gates) + 1)]
        gates += [("and", 18, 21), ("and", 24, 27), ("or", 28, 29), ("not", 30)]
        self.assert_layers(gates, [0] * 16 + [1] * 12 + [2] * 4)
        # one more in beside them, and five would be needed
        self.assert_layers([IN] + [self.moved(gate) for gate in gates] + [("or", 32, 0), ("pick", 31, 0, 33)],
                           [0] * 17 + [1] * 12 + [2] * 4 + [3, 3])

    def moved(self, gate):
        return (gate[0],) + tuple(feed + 1 for feed in gate[1:])

    def test_a_pick_of_picks(self):
        gates = [IN] * 7 + [("pick", 0, 1, 2), ("pick", 0, 3, 4), ("pick", 5, 7, 8), ("pick", 6, 9, 7)]
        self.assert_layers(gates, [0] * 7 + [1, 1, 2, 2])

    def test_keep_gates_end_the_rows(self):
        gates = [IN] * 4 + [("xor", 0, 1), ("xor", 2, 3), ("xor", 4, 5), ("keep", 0, 6), ("not", 7), ("and", 8, 0),
                            ("and", 6, 7), ("keep", 1, 11)]
        self.assert_layers(gates, [0] * 4 + [1, 1, 1, 0, 1, 1, 2, 0])

    def test_a_try_of_all_sets_on_small_nets(self):
        seen = {}
        for seed in range(250):
            net = wide_net(seed, 7 + seed % 4, 10)
            layers = layers_of(net)[0]
            self.assertEqual(layers, tried_layers(net), net.gates)
            for layer in layers:
                seen[layer] = seen.get(layer, 0) + 1
        self.assertEqual(sorted(seen), [0, 1, 2, 3])
        self.assertGreater(seen[2], 100)

    def test_a_try_of_all_sets_on_deeper_nets(self):
        for seed in range(12):
            net = self.deep_net(seed)
            layers = layers_of(net)[0]
            self.assertEqual(layers, tried_layers(net), net.gates)
            self.assertEqual(max(layers), 3)

    def deep_net(self, seed):
        """A chain of eight or nine sources, some of them keep gates, with a few gates above it."""
        ins = 8 + seed % 2
        gates = list(chain(ins, ("and", "or", "xor")[seed % 3]).gates)
        for number in range(seed % 4):
            gates[2 * number] = ("keep", 0, len(gates) - 1 - number)
        last = len(gates) - 1
        return Net(gates + [("not", last - seed % 3), ("pick", seed % ins, last, last + 1)], [])


class PaperTest(unittest.TestCase):
    def nets(self):
        for seed in range(40):
            yield wide_net(seed, 4 + seed % 12, 20 + 3 * seed)
            yield random_net(seed, 10 + 3 * seed, 6)

    def test_its_own_paper_is_taken(self):
        greatest = 0
        for net in self.nets():
            layers, paper = layers_of(net)
            self.assertIs(layers_hold(net, layers, paper), True)
            greatest = max([greatest] + layers)
        self.assertGreater(greatest, 4)

    def test_layers_never_fall_from_a_gate_to_one_that_it_feeds(self):
        for net in self.nets():
            layers = layers_of(net)[0]
            for number, gate in enumerate(net.gates):
                if gate[0] not in ("in", "keep"):
                    self.assertTrue(all(layers[feed] <= layers[number] for feed in gate[1:]))

    def test_the_form_of_the_paper(self):
        for net in self.nets():
            told = layers_of(net)
            self.assertIsInstance(told, tuple)
            layers, paper = told
            self.assertEqual((type(layers), type(paper)), (list, list))
            for number, reason in enumerate(paper):
                if net.gates[number][0] in ("in", "keep"):
                    self.assertIsNone(reason)
                else:
                    self.assertIsInstance(reason, tuple)
                    self.assertEqual((type(reason[0]), type(reason[1])), (list, list))
                    self.assertTrue(all(type(path) is list for path in reason[1]))
                    self.assertEqual(len(reason[1]), 0 if layers[number] == 1 else 5)

    def test_what_is_told_is_the_askers_own(self):
        net = wide_net(3, 9, 60)
        gates = net.gates
        told = layers_of(net)
        found = lists_in(told)
        self.assertGreater(len(found), 200)
        self.assertEqual(len({id(part) for part in found}), len(found))
        again = layers_of(net)
        for part in found:
            part.clear()
        self.assertTrue(layers_hold(net, again[0], again[1]))
        self.assertEqual(layers_of(net), again)
        self.assertEqual(net.gates, gates)

    def test_a_net_of_a_hundred_and_fifty_gates(self):
        net = wide_net(8, 30, 120)
        layers, paper = layers_of(net)
        self.assertTrue(layers_hold(net, layers, paper))
        net = chain(75)
        layers, paper = layers_of(net)
        self.assertEqual(max(layers), 25)
        self.assertTrue(layers_hold(net, layers, paper))


if __name__ == "__main__":
    unittest.main()
