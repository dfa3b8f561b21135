"""Gates that shut a gate off."""

import itertools
import random
import unittest

from bitfloor.cutting import shuts_off
from bitfloor.nets import Net
from samples import plainly_shut, random_net, wide_net


def others_of(net, gate):
    return [number for number in range(len(net.gates)) if number != gate]


def inner_gates(net):
    return [number for number, gate in enumerate(net.gates) if gate[0] not in ("in", "keep")]


class ManyNetsTest(unittest.TestCase):
    def test_every_set_of_at_most_three_on_small_nets(self):
        told = []
        for seed in range(30):
            net = wide_net(seed, 3, 7)
            for gate in inner_gates(net):
                for size in range(4):
                    for gates in itertools.combinations(others_of(net, gate), size):
                        answer = shuts_off(net, list(gates), gate)
                        self.assertIs(answer, plainly_shut(net, gates, gate), (net.gates, gates, gate))
                        told.append(answer)
        self.assertGreater(told.count(True), 1000)
        self.assertGreater(told.count(False), 1000)

    def test_chosen_sets_on_greater_nets(self):
        source = random.Random(5)
        told = []
        for seed in range(60):
            net = wide_net(seed, 6, 14) if seed % 2 else random_net(seed, 20, 5)
            for gate in inner_gates(net):
                for size in (0, 2, 4, 6, 9):
                    gates = source.sample(others_of(net, gate), size)
                    answer = shuts_off(net, gates, gate)
                    self.assertIs(answer, plainly_shut(net, gates, gate), (net.gates, gates, gate))
                    told.append(answer)
        self.assertGreater(told.count(True), 1000)
        self.assertGreater(told.count(False), 1000)


class RowsTest(unittest.TestCase):
    def test_the_empty_set(self):
        net = Net([("in",), ("zero",), ("one",), ("not", 1), ("and", 2, 3), ("or", 4, 0), ("pick", 1, 2, 3)], [])
        self.assertEqual([shuts_off(net, [], gate) for gate in range(1, 7)], [True, True, True, True, False, True])
        self.assertEqual([shuts_off(net, (), gate) for gate in (4, 5)], [True, False])

    def test_rows_that_end_at_zero_and_one_gates_want_none(self):
        net = Net([("in",), ("zero",), ("one",), ("and", 0, 1), ("pick", 3, 2, 1)], [])
        self.assertTrue(shuts_off(net, [0], 3))
        self.assertTrue(shuts_off(net, [0], 4))
        self.assertFalse(shuts_off(net, [1, 2], 4))
        self.assertTrue(shuts_off(net, [3], 4))

    def test_a_row_ends_at_a_keep_gate_and_never_goes_through(self):
        # gate 1 is fed by gate 3 and gate 4 by gate 0
        net = Net([("in",), ("keep", 0, 3), ("not", 1), ("and", 0, 2), ("keep", 1, 0), ("not", 4)], [])
        self.assertFalse(shuts_off(net, [0], 3))
        self.assertTrue(shuts_off(net, [0, 1], 3))
        self.assertTrue(shuts_off(net, [2, 0], 3))
        self.assertFalse(shuts_off(net, [0], 5))
        self.assertTrue(shuts_off(net, [4], 5))
        self.assertFalse(shuts_off(net, [0, 1, 2, 3], 5))
        self.assertTrue(shuts_off(net, [1, 3], 2))
        self.assertFalse(shuts_off(net, [3], 2))

    def test_a_keep_gate_fed_by_a_zero_gate_is_a_source(self):
        net = Net([("zero",), ("keep", 0, 0), ("not", 1), ("keep", 0, 3), ("or", 2, 3)], [])
        self.assertFalse(shuts_off(net, [], 2))
        self.assertFalse(shuts_off(net, [0, 3], 2))
        self.assertTrue(shuts_off(net, [1], 2))
        self.assertTrue(shuts_off(net, [1, 3], 4))
        self.assertFalse(shuts_off(net, [2], 4))

    def test_gates_that_do_not_lead_to_it_or_stand_twice(self):
        net = Net([("in",), ("in",), ("and", 0, 1), ("not", 2), ("not", 3), ("xor", 0, 1)], [])
        self.assertFalse(shuts_off(net, [4, 5, 3], 2))
        self.assertFalse(shuts_off(net, [0, 0, 4], 2))
        self.assertTrue(shuts_off(net, [0, 4, 1, 1, 5], 2))
        self.assertTrue(shuts_off(net, [2, 2], 3))
        self.assertTrue(shuts_off(net, [2, 0, 1], 4))

    def test_one_row_of_many_is_enough(self):
        net = Net([("in",), ("in",), ("not", 0), ("pick", 2, 0, 1), ("or", 3, 2)], [])
        self.assertFalse(shuts_off(net, [2, 1], 4))
        self.assertTrue(shuts_off(net, [2, 1, 0], 4))
        self.assertTrue(shuts_off(net, [3, 2], 4))
        self.assertFalse(shuts_off(net, [3], 4))

    def test_long_rows(self):
        count = 3000
        net = Net([("in",)] + [("xor", number, max(0, number - 1)) for number in range(count)], [])
        self.assertTrue(shuts_off(net, [0], count))
        self.assertFalse(shuts_off(net, [], count))
        self.assertFalse(shuts_off(net, [count - 1], count))
        self.assertTrue(shuts_off(net, [count - 1, count - 2], count))

    def test_nothing_is_changed(self):
        net = Net([("in",), ("in",), ("and", 0, 1), ("not", 2)], [3])
        gates = [1, 0]
        self.assertTrue(shuts_off(net, gates, 3))
        self.assertTrue(shuts_off(net, tuple(gates), 3))
        self.assertEqual((gates, net.gates, net.outs), ([1, 0], (("in",), ("in",), ("and", 0, 1), ("not", 2)), (3,)))


if __name__ == "__main__":
    unittest.main()
