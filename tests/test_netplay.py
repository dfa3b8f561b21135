"""Nets in play."""

import unittest

from bitfloor.errors import NoRow
from bitfloor.netplay import NetPlayer
from bitfloor.nets import Net, ins_of, keeps_of
from samples import random_bits, random_net

BAD_BITS = (2, -1, True, False, None, "0", "1", [0], (1,), 10 ** 30)


class BeatTest(unittest.TestCase):
    def test_each_word(self):
        gates = [("in",), ("in",), ("in",), ("zero",), ("one",), ("not", 0), ("and", 0, 1), ("or", 0, 1), ("xor", 0, 1),
                 ("pick", 0, 1, 2)]
        player = NetPlayer(Net(gates, list(range(10))))
        for a in (0, 1):
            for b in (0, 1):
                for c in (0, 1):
                    bits = [a, b, c, 0, 1, 1 - a, int(a + b == 2), int(a + b > 0), int(a != b), b if a else c]
                    self.assertEqual(player.beat([a, b, c]), bits)
                    self.assertEqual(player.bits_now(), bits)

    def test_in_gates_in_order_and_outs_in_theirs(self):
        net = Net([("in",), ("zero",), ("in",), ("in",)], [3, 0, 0, 2, 1])
        self.assertEqual(NetPlayer(net).beat([1, 0, 1]), [1, 1, 1, 0, 0])
        self.assertEqual(NetPlayer(net).beat((0, 1, 0)), [0, 0, 0, 1, 0])

    def test_keep_gates_move_when_all_is_told(self):
        # gates 1, 2 and 3 hand on what is fed; gate 4 turns at each beat; gate 6 holds what it holds
        gates = [("in",), ("keep", 1, 0), ("keep", 0, 1), ("keep", 1, 2), ("keep", 0, 5), ("not", 4), ("keep", 1, 6)]
        player = NetPlayer(Net(gates, [1, 2, 3, 4, 6]))
        self.assertEqual(player.held(), [1, 0, 1, 0, 1])
        self.assertEqual(player.beat([0]), [1, 0, 1, 0, 1])
        self.assertEqual(player.held(), [0, 1, 0, 1, 1])
        self.assertEqual(player.bits_now(), [0, 1, 0, 1, 0, 1, 1])
        self.assertEqual(player.beat([1]), [0, 1, 0, 1, 1])
        self.assertEqual(player.beat([0]), [1, 0, 1, 0, 1])
        self.assertEqual(player.held(), [0, 1, 0, 1, 1])

    def test_many_beats_of_many_nets(self):
        for seed in range(40):
            net = random_net(seed, 60)
            player = NetPlayer(net)
            held = [net.gates[number][1] for number in keeps_of(net)]
            for row in random_bits(seed, 20, len(ins_of(net))):
                self.assertEqual(player.held(), held)
                outs = player.beat(row)
                bits = player.bits_now()
                self.assert_bits(net, row, held, bits)
                self.assertEqual(outs, [bits[out] for out in net.outs])
                held = [bits[net.gates[number][2]] for number in keeps_of(net)]

    def assert_bits(self, net, row, held, bits):
        fed = list(row)
        kept = list(held)
        for gate, bit in zip(net.gates, bits):
            a, b, c = [bits[feed] if feed < len(bits) else 0 for feed in gate[1:] + (0, 0, 0)][:3]
            told = {
                "in": lambda: fed.pop(0), "keep": lambda: kept.pop(0), "zero": lambda: 0, "one": lambda: 1,
                "not": lambda: int(not a), "and": lambda: int(a and b), "or": lambda: int(a or b),
                "xor": lambda: int(a != b), "pick": lambda: b if a else c,
            }[gate[0]]()
            self.assertEqual(bit, told)

    def test_empty_net(self):
        player = NetPlayer(Net([], []))
        self.assertEqual((player.beat([]), player.beat(()), player.bits_now(), player.held()), ([], [], [], []))


class AloneTest(unittest.TestCase):
    def test_bits_now_ahead_of_the_first_beat(self):
        for net in (Net([], []), Net([("in",)], [0])):
            with self.assertRaises(NoRow):
                NetPlayer(net).bits_now()

    def test_a_refused_row_is_no_beat(self):
        player = NetPlayer(Net([("in",)], [0]))
        with self.assertRaises(NoRow):
            player.beat([2])
        with self.assertRaises(NoRow):
            player.bits_now()

    def test_rows_that_are_none_change_nothing(self):
        player = NetPlayer(Net([("in",), ("in",), ("keep", 0, 0)], [2]))
        player.beat([1, 0])
        rows = [[], [1], [1, 1, 1], (), (0,)] + [[0, bad] for bad in BAD_BITS] + [(bad, 1) for bad in BAD_BITS]
        for row in rows:
            with self.assertRaises(NoRow, msg=str(row)):
                player.beat(row)
            self.assertEqual((player.held(), player.bits_now()), ([1], [1, 0, 0]))
        self.assertEqual(player.beat([0, 0]), [1])

    def test_what_is_told_and_handed_in_may_be_changed(self):
        player = NetPlayer(Net([("in",), ("keep", 1, 0)], [0, 1]))
        row = [0]
        told = player.beat(row)
        row[0] = 1
        told.clear()
        player.bits_now().clear()
        player.held()[0] = 1
        self.assertEqual((player.bits_now(), player.held()), ([0, 1], [0]))
        earlier = (player.bits_now(), player.held())
        self.assertEqual(player.beat([1]), [1, 0])
        self.assertEqual(earlier, ([0, 1], [0]))

    def test_two_players_do_not_meddle(self):
        net = Net([("keep", 0, 1), ("not", 0)], [0])
        one = NetPlayer(net)
        other = NetPlayer(net)
        one.beat([])
        self.assertEqual((one.held(), other.held()), ([1], [0]))
        self.assertEqual((one.beat([]), other.beat([])), ([1], [0]))


if __name__ == "__main__":
    unittest.main()
