"""Nets and their gates."""

import unittest

from bitfloor.errors import NoNet
from bitfloor.nets import Net, feeds_of, ins_of, keeps_of

GOOD = (
    ("in",), ("keep", 1, 9), ("zero",), ("one",), ("not", 0), ("and", 0, 4), ("or", 5, 5), ("xor", 6, 0),
    ("pick", 7, 1, 2), ("keep", 0, 1), ("in",), ("keep", 0, 11),
)

THINGS = (
    None, True, False, 0, 1, -1, 10 ** 30, "", "in", "zero", "and", [], (), {}, set(), [("in",)], ["in"], ("in", 0),
    object(), {"in": 1}, ("IN",), (" in",), ("inn",), (None,), (0,), (["in"],), ({},), (("in",),), ("in", None),
)

FEEDS = (None, True, False, -1, 10 ** 30, "0", "", [0], (0,), [], (), {}, set(), object())


class NetTest(unittest.TestCase):
    def test_fields(self):
        for gates, outs in ((list(GOOD), [3, 0, 3]), (GOOD, (3, 0, 3))):
            net = Net(gates, outs)
            self.assertEqual((net.gates, net.outs), (GOOD, (3, 0, 3)))
            self.assertIsInstance(net.gates, tuple)
            self.assertIsInstance(net.outs, tuple)
        for nothing in ([], ()):
            self.assertEqual((Net(nothing, nothing).gates, Net(nothing, nothing).outs), ((), ()))

    def test_ins_and_keeps(self):
        net = Net(GOOD, [])
        self.assertEqual(ins_of(net), [0, 10])
        self.assertEqual(keeps_of(net), [1, 9, 11])
        self.assertEqual((ins_of(Net([], [])), keeps_of(Net([], []))), ([], []))

    def test_feeds(self):
        told = [feeds_of(gate) for gate in GOOD]
        self.assertEqual(told, [[], [9], [], [], [0], [0, 4], [5, 5], [6, 0], [7, 1, 2], [1], [], [11]])
        self.assertTrue(all(isinstance(feeds, list) for feeds in told))

    def test_lists_may_be_changed_later(self):
        gates = list(GOOD)
        outs = [1, 2]
        net = Net(gates, outs)
        gates.clear()
        outs.append(7)
        self.assertEqual((net.gates, net.outs), (GOOD, (1, 2)))
        ins_of(net).clear()
        keeps_of(net).clear()
        feeds_of(net.gates[5]).clear()
        self.assertEqual((ins_of(net), keeps_of(net), feeds_of(net.gates[5])), ([0, 10], [1, 9, 11], [0, 4]))


class RefusedTest(unittest.TestCase):
    def assert_gate(self, gates, outs, number):
        with self.assertRaises(NoNet, msg=str(gates)) as caught:
            Net(gates, outs)
        self.assertEqual(caught.exception.gate, number, gates)

    def assert_no_gate(self, gate):
        """As the fourth of six gates it is at fault."""
        self.assert_gate([("in",), ("zero",), ("one",), gate, ("not", 0), ("in",)], [0], 3)

    def test_things_that_are_no_gates(self):
        for thing in THINGS:
            self.assert_no_gate(thing)

    def test_gates_that_are_lists(self):
        for gate in (["in"], ["not", 0], ["and", 0, 1], ["keep", 0, 0]):
            self.assert_no_gate(gate)

    def test_wrong_numbers_of_feeds(self):
        for word, count in (("in", 0), ("zero", 0), ("one", 0), ("not", 1), ("and", 2), ("or", 2), ("xor", 2),
                            ("pick", 3)):
            for other in range(6):
                gates = [("in",), ("in",), ("in",), (word,) + (0,) * other]
                if other == count:
                    self.assertEqual(Net(gates, [3]).gates, tuple(gates))
                else:
                    self.assert_gate(gates, [3], 3)
        for gate in (("keep",), ("keep", 0), ("keep", 0, 0, 0), ("keep", 0, 0, 0, 0)):
            self.assert_no_gate(gate)

    def test_feeds_are_gates_ahead(self):
        for feed in FEEDS + (3, 4, 5, 6):
            for gate in (("not", feed), ("and", feed, 0), ("and", 0, feed), ("or", feed, 0), ("or", 0, feed),
                         ("xor", feed, 0), ("xor", 0, feed), ("pick", feed, 0, 0), ("pick", 0, feed, 0),
                         ("pick", 0, 0, feed)):
                self.assert_no_gate(gate)

    def test_a_keep_gate_is_fed_by_any(self):
        for feed in range(6):
            for first in (0, 1):
                gates = [("in",), ("zero",), ("one",), ("keep", first, feed), ("not", 3), ("in",)]
                self.assertEqual(Net(gates, [3]).gates, tuple(gates))
        for feed in FEEDS + (6, 7):
            self.assert_no_gate(("keep", 0, feed))
        for first in FEEDS + (2,):
            self.assert_no_gate(("keep", first, 0))

    def test_the_first_gate_at_fault_is_told(self):
        self.assert_gate([("not", 0)], [], 0)
        self.assert_gate([("in",), ("not", 1), ("not", 9)], [], 1)
        self.assert_gate([("in",), ("keep", 0, 3), ("and", 0, 2)], [], 1)
        self.assert_gate([("in",), ("keep", 0, 2), ("and", 0, 2)], [], 2)
        self.assert_gate([("in",), None], [7], 1)
        self.assert_gate(([("in",)]), [1], -1)

    def test_outs(self):
        gates = [("in",), ("not", 0)]
        self.assertEqual(Net(gates, [0, 1, 1]).outs, (0, 1, 1))
        for out in FEEDS + (2, "in", ("in",)):
            self.assert_gate(gates, [out], -1)
            self.assert_gate(gates, (0, 1, out), -1)
            self.assert_gate(gates, [out, 1], -1)
        self.assert_gate([], [0], -1)

    def test_a_refusal_leaves_what_was_handed_in(self):
        gates = [("in",), ("not", 5)]
        outs = [0]
        self.assert_gate(gates, outs, 1)
        self.assertEqual((gates, outs), ([("in",), ("not", 5)], [0]))


if __name__ == "__main__":
    unittest.main()
