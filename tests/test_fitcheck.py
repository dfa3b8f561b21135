"""Bits reckoned from others, and tables that fit or do not."""

import random
import unittest

from bitfloor.fitcheck import bit_from, fit_holds
from bitfloor.fitting import fitted
from bitfloor.netplay import NetPlayer
from bitfloor.nets import Net, ins_of, keeps_of
from bitfloor.tableplay import TablePlayer
from bitfloor.tables import Tables
from samples import STRANGE, exchanged, plainly_shut, random_bits, random_net, wide_net

IN = ("in",)

# gates 2 and 6 to 8: a keep, and what tells
NET = Net([IN, IN, ("keep", 1, 6), ("and", 0, 1), ("xor", 3, 2), ("not", 4), ("or", 5, 0), ("zero",), ("and", 7, 0)],
          [5, 0, 2, 6, 8])
LEAVES = ([("in", 0), ("in", 1), ("keep", 0)], [("table", 0)], [("table", 1), ("in", 0)], [("in", 0)])
BITS = (120, 1, 14, 0)
KEEPS = [(1, ("table", 2))]
OUTS = [("table", 1), ("in", 0), ("keep", 0), ("table", 2), ("table", 3)]
PAPER = [4, 5, 6, 8]


def plain_bit(net, gate, known):
    """A gate's bit by a plain walk down."""
    if gate in known:
        return known[gate]
    word, feeds = net.gates[gate][0], net.gates[gate][1:]
    if word in ("in", "keep"):
        return None
    bits = [plain_bit(net, feed, known) for feed in feeds]
    if None in bits:
        return None
    told = {
        "zero": lambda: 0, "one": lambda: 1, "not": lambda: int(not bits[0]), "and": lambda: min(bits),
        "or": lambda: max(bits), "xor": lambda: int(bits[0] != bits[1]), "pick": lambda: bits[2 - bits[0]],
    }
    return told[word]()


def plainly_fits(net, tables, paper):
    """Point [19] word by word, for a paper of the right kinds."""
    ins, keeps = ins_of(net), keeps_of(net)
    if (tables.ins, len(tables.keeps), len(tables.outs)) != (len(ins), len(keeps), len(net.outs)):
        return False

    def gate(place):
        return {"in": ins, "keep": keeps, "table": paper}[place[0]][place[1]]

    if any((first, gate(place)) != net.gates[number][1:] for number, (first, place) in zip(keeps, tables.keeps)):
        return False
    if any(gate(place) != number for number, place in zip(net.outs, tables.outs)):
        return False
    for number, (leaves, bits) in zip(paper, tables.tables):
        gates = [gate(leaf) for leaf in leaves]
        if len(set(gates)) < len(gates):
            return False
        for row in range(2 ** len(gates)):
            known = {leaf: row // 2 ** place % 2 for place, leaf in enumerate(gates)}
            if plain_bit(net, number, known) != bits // 2 ** row % 2:
                return False
    return True


class BitFromTest(unittest.TestCase):
    def test_against_a_plain_reckoning_on_many_nets(self):
        source = random.Random(2)
        told = []
        for seed in range(60):
            net = wide_net(seed, 4, 12) if seed % 2 else random_net(seed, 16, 3)
            for gate in range(16):
                for size in (0, 1, 3, 5, 8):
                    known = {number: source.randint(0, 1) for number in source.sample(range(16), size)}
                    answer = bit_from(net, gate, known)
                    self.assertEqual(answer, plain_bit(net, gate, known), (net.gates, gate, known))
                    if net.gates[gate][0] not in ("in", "keep") and gate not in known:
                        self.assertIs(answer is not None, plainly_shut(net, known, gate))
                    told.append(answer)
        for answer in (0, 1, None):
            self.assertGreater(told.count(answer), 500)

    def test_bits_of_a_net_in_play(self):
        for seed in range(20):
            net = wide_net(seed, 5, 30)
            player = NetPlayer(net)
            sources = ins_of(net) + keeps_of(net)
            for row in random_bits(seed, 4, len(ins_of(net))):
                player.beat(row)
                bits = player.bits_now()
                known = {number: bits[number] for number in sources}
                self.assertEqual([bit_from(net, gate, known) for gate in range(len(bits))], bits)

    def test_the_gate_itself(self):
        for gate in range(9):
            for bit in (0, 1):
                self.assertEqual(bit_from(NET, gate, {gate: bit}), bit)
        self.assertEqual(bit_from(NET, 7, {7: 1}), 1)
        self.assertEqual(bit_from(NET, 5, {5: 0, 4: 0}), 0)

    def test_none_known(self):
        gates = [("zero",), ("one",), ("not", 0), ("xor", 2, 1), ("pick", 3, 0, 2), IN, ("and", 0, 5), ("keep", 0, 0)]
        net = Net(gates, [])
        self.assertEqual([bit_from(net, gate, {}) for gate in range(8)], [0, 1, 1, 0, 1, None, None, None])

    def test_what_is_not_shut_off_is_none_whatever_the_others_have(self):
        self.assertIsNone(bit_from(NET, 3, {0: 0}))
        self.assertIsNone(bit_from(NET, 6, {5: 1}))
        self.assertIsNone(bit_from(NET, 8, {}))
        self.assertEqual(bit_from(NET, 8, {0: 1}), 0)
        net = Net([IN, IN, IN, ("pick", 0, 1, 2)], [])
        self.assertIsNone(bit_from(net, 3, {0: 1, 1: 1}))
        self.assertIsNone(bit_from(net, 3, {1: 1, 2: 1}))
        self.assertEqual(bit_from(net, 3, {0: 1, 1: 1, 2: 0}), 1)

    def test_keep_gates_on_the_way(self):
        # gate 2 is fed by gate 6, and gate 4 by gate 2
        self.assertIsNone(bit_from(NET, 4, {6: 1, 0: 1, 1: 1}))
        self.assertEqual(bit_from(NET, 4, {2: 1, 0: 1, 1: 1}), 0)
        self.assertEqual(bit_from(NET, 4, {2: 0, 3: 1}), 1)
        self.assertIsNone(bit_from(NET, 2, {6: 1}))
        self.assertEqual(bit_from(NET, 2, {2: 1, 6: 0}), 1)

    def test_gates_that_do_not_matter(self):
        self.assertEqual(bit_from(NET, 3, {0: 1, 1: 1, 6: 0, 5: 1, 7: 1, 2: 0}), 1)
        self.assertEqual(bit_from(NET, 5, {4: 1, 3: 1, 0: 0}), 0)

    def test_long_rows_and_nothing_changed(self):
        net = Net([IN] + [("not", number) for number in range(3000)], [])
        known = {0: 1}
        self.assertEqual((bit_from(net, 3000, known), bit_from(net, 2999, known)), (1, 0))
        self.assertEqual(known, {0: 1})


def tables_with(number=None, leaves=None, bits=None, keeps=None, outs=None, ins=2, more=()):
    """The tables that fit NET, with one thing changed."""
    tables = list(zip(LEAVES, BITS))
    if number is not None:
        tables[number] = (LEAVES[number] if leaves is None else leaves, BITS[number] if bits is None else bits)
    return Tables(ins, tables + list(more), KEEPS if keeps is None else keeps, OUTS if outs is None else outs)


class FitTest(unittest.TestCase):
    def assert_fit(self, taken, tables, paper=None):
        paper = PAPER if paper is None else paper
        self.assertIs(fit_holds(NET, tables, paper), taken)
        self.assertIs(plainly_fits(NET, tables, paper), taken)

    def test_as_it_is(self):
        self.assert_fit(True, tables_with())
        self.assertIs(fit_holds(NET, tables_with(), tuple(PAPER)), True)

    def test_what_fitted_tells(self):
        for seed in range(60):
            for net in (random_net(seed, 10 + seed, 5), wide_net(seed, 2 + seed % 9, 10 + seed)):
                tables, paper = fitted(net)
                self.assertIs(fit_holds(net, tables, paper), True)

    def test_numbers_of_ins_keeps_and_outs(self):
        self.assert_fit(False, tables_with(ins=3))
        self.assert_fit(False, tables_with(keeps=KEEPS * 2))
        self.assert_fit(False, tables_with(keeps=[], outs=OUTS[:2] + OUTS[3:], number=0, leaves=[("in", 0), ("in", 1)],
                                           bits=0))
        self.assert_fit(False, tables_with(outs=OUTS[:-1]))
        self.assert_fit(False, tables_with(outs=OUTS + OUTS[:1]))
        self.assert_fit(False, tables_with(outs=[]))
        self.assertIs(fit_holds(Net(NET.gates + (IN,), NET.outs), tables_with(), PAPER), False)
        self.assertIs(fit_holds(Net(NET.gates + (("keep", 1, 6),), NET.outs), tables_with(), PAPER), False)
        self.assertIs(fit_holds(Net(NET.gates + (("not", 0),), NET.outs), tables_with(), PAPER), True)
        less = Net([("zero",)] + list(NET.gates[1:]), NET.outs)
        self.assertIs(fit_holds(less, tables_with(), PAPER), False)
        self.assertIs(fit_holds(Net([("zero",)], []), Tables(1, [([("in", 0)], 0)], [], []), [0]), False)
        self.assertIs(fit_holds(Net([], []), Tables(0, [], [], []), []), True)

    def test_a_first_value(self):
        self.assert_fit(False, tables_with(keeps=[(0, ("table", 2))]))

    def test_a_place_that_stands_for_another_gate(self):
        places = [("in", 0), ("in", 1), ("keep", 0), ("table", 0), ("table", 1), ("table", 2), ("table", 3)]
        for place in places:
            self.assert_fit(place == KEEPS[0][1], tables_with(keeps=[(1, place)]))
            for number in range(len(OUTS)):
                outs = OUTS[:number] + [place] + OUTS[number + 1:]
                self.assert_fit(place == OUTS[number], tables_with(outs=outs))
        for number, leaves in enumerate(LEAVES[:3]):
            for count in range(len(leaves)):
                for place in places[:3 + number]:
                    other = leaves[:count] + [place] + leaves[count + 1:]
                    self.assert_fit(place == leaves[count], tables_with(number, leaves=other))

    def test_a_bit_turned_over(self):
        for number, leaves in enumerate(LEAVES):
            for place in range(2 ** len(leaves)):
                self.assert_fit(False, tables_with(number, bits=BITS[number] ^ 1 << place))

    def test_leaves_in_another_order_with_their_bits(self):
        self.assert_fit(True, tables_with(2, leaves=[("in", 0), ("table", 1)]))
        # 1 where one of the keep and the and of both ins is 1 alone
        self.assert_fit(True, tables_with(0, leaves=[("keep", 0), ("in", 0), ("in", 1)], bits=0b01101010))
        self.assert_fit(False, tables_with(0, leaves=[("keep", 0), ("in", 0), ("in", 1)]))

    def test_leaves_that_do_not_shut_off(self):
        for leaves in ([("in", 0), ("in", 1)], [("in", 0), ("keep", 0)], [("keep", 0)], []):
            for bits in range(2 ** 2 ** len(leaves)):
                self.assert_fit(False, tables_with(0, leaves=leaves, bits=bits))
        for bits in range(4):
            self.assert_fit(False, tables_with(2, leaves=[("table", 1)], bits=bits))
            self.assert_fit(False, tables_with(3, leaves=[("in", 1)], bits=bits))
        for bits in range(2):
            self.assert_fit(False, tables_with(3, leaves=[], bits=bits))

    def test_a_leaf_more_than_needed(self):
        self.assert_fit(True, tables_with(1, leaves=[("table", 0), ("in", 1)], bits=5))
        self.assert_fit(False, tables_with(1, leaves=[("table", 0), ("in", 1)], bits=13))
        # gate 5 stands by itself, whatever gate 4 beneath it has
        self.assert_fit(True, tables_with(2, leaves=[("table", 1), ("in", 0), ("table", 0)], bits=0b11101110))
        self.assert_fit(False, tables_with(2, leaves=[("table", 1), ("in", 0), ("table", 0)], bits=0b11101111))

    def test_two_leaves_for_one_gate(self):
        for bits in range(16):
            self.assert_fit(False, tables_with(1, leaves=[("table", 0), ("table", 0)], bits=bits))
        self.assert_fit(False, tables_with(3, leaves=[("in", 0), ("in", 0)], bits=0))
        # two tables stand for gate 4: each may be a leaf, but not both of one table
        more = [(LEAVES[0], BITS[0]), ([("table", 4)], 1)]
        self.assert_fit(True, tables_with(more=more), PAPER + [4, 5])
        for bits in range(16):
            more[1] = ([("table", 4), ("table", 0)], bits)
            self.assert_fit(False, tables_with(more=more), PAPER + [4, 5])

    def test_a_gate_that_is_a_leaf_is_that_leaf(self):
        for leaf, number in ((("table", 0), 4), (("in", 1), 1), (("keep", 0), 2)):
            for bits in range(4):
                self.assert_fit(bits == 2, tables_with(more=[([leaf], bits)]), PAPER + [number])
        for bits in range(2):
            self.assert_fit(False, tables_with(more=[([], bits)]), PAPER + [0])
            self.assert_fit(False, tables_with(more=[([], bits)]), PAPER + [2])
            self.assert_fit(bits == 0, tables_with(more=[([], bits)]), PAPER + [7])

    def test_a_table_that_is_no_ones_leaf_is_looked_at_too(self):
        self.assert_fit(True, tables_with(more=[([("in", 0), ("in", 1)], 8)]), PAPER + [3])
        self.assert_fit(False, tables_with(more=[([("in", 0), ("in", 1)], 9)]), PAPER + [3])

    def test_papers_that_are_none(self):
        for paper in (PAPER[:-1], PAPER + [8], [], [5, 4, 6, 8], [4, 5, 6, 7], [4, 5, 6, 9], [-5, 5, 6, 8],
                      [4, 5, 6, -1]):
            self.assertIs(fit_holds(NET, tables_with(), paper), False, paper)
        for strange in STRANGE + (None, [], (), 4):
            for paper in exchanged(PAPER, strange):
                self.assertIs(fit_holds(NET, tables_with(), paper), paper == PAPER, (strange, paper))
        one = Net([IN, ("not", 0)], [1])
        tables = Tables(1, [([("in", 0)], 1)], [], [("table", 0)])
        for strange, taken in (([1], True), ((1,), True), ([True], False), ([False], False), (1, False), ("1", False)):
            self.assertIs(fit_holds(one, tables, strange), taken)
        self.assertIs(fit_holds(Net([IN], [0]), Tables(1, [([("in", 0)], 2)], [], [("in", 0)]), [False]), False)

    def test_nothing_is_changed(self):
        paper = list(PAPER)
        tables = tables_with()
        before = (tables.ins, tables.tables, tables.keeps, tables.outs)
        fit_holds(NET, tables, paper)
        self.assertEqual((paper, (tables.ins, tables.tables, tables.keeps, tables.outs)), (PAPER, before))


class ManyFitsTest(unittest.TestCase):
    def changed(self, source, net, tables, paper):
        """The tables and the paper with one thing changed."""
        rows = [[list(leaves), bits] for leaves, bits in tables.tables]
        keeps = [list(keep) for keep in tables.keeps]
        outs = list(tables.outs)
        paper = list(paper)
        sources = [("in", place) for place in range(tables.ins)] + [("keep", place) for place in range(len(keeps))]
        places = sources + [("table", place) for place in range(len(rows))]
        number = source.randrange(len(rows))
        kind = source.randrange(6)
        if kind == 0:
            rows[number][1] ^= 1 << source.randrange(2 ** len(rows[number][0]))
        elif kind == 1 and rows[number][0]:
            place = source.randrange(len(rows[number][0]))
            rows[number][0][place] = source.choice(places[:len(sources) + number] or [rows[number][0][place]])
        elif kind == 2:
            paper[number] = source.randrange(len(net.gates))
        elif kind == 3 and outs:
            outs[source.randrange(len(outs))] = source.choice(places)
        elif kind == 4 and keeps:
            keeps[source.randrange(len(keeps))][1] = source.choice(places)
        elif keeps:
            keeps[source.randrange(len(keeps))][0] = source.randrange(2)
        return Tables(tables.ins, [tuple(row) for row in rows], [tuple(keep) for keep in keeps], outs), paper

    def test_fits_with_changes_against_a_plain_look(self):
        source = random.Random(7)
        told = []
        for seed in range(150):
            net = wide_net(seed, 3, 12)
            tables, paper = fitted(net)
            if not tables.tables:
                continue
            for count in range(12):
                other, other_paper = self.changed(source, net, tables, paper)
                answer = fit_holds(net, other, other_paper)
                self.assertIs(answer, plainly_fits(net, other, other_paper))
                told.append(answer)
                if answer:
                    self.assert_same(net, other)
        self.assertGreater(told.count(True), 200)
        self.assertGreater(told.count(False), 200)

    def assert_same(self, net, tables):
        one, other = NetPlayer(net), TablePlayer(tables)
        for row in random_bits(1, 6, tables.ins):
            self.assertEqual(one.beat(row), other.beat(row))


if __name__ == "__main__":
    unittest.main()
