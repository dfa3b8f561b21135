"""Papers of meets, found."""

import itertools
import random
import unittest

from bitfloor.meets import meets_of
from bitfloor.meetscheck import alike_holds
from bitfloor.nets import Net, ins_of, keeps_of
from bitfloor.opening import opened_net
from bitfloor.tables import Tables
from samples import lists_in, plainly_met, random_net, random_tables, rewritten, wide_net


def first_gates(net, gate, firsts):
    """The tuples of the gates to which the feeds of a gate, gone down, first come."""
    if net.gates[gate][0] in ("in", "keep"):
        return set()
    found = set()
    for feed in net.gates[gate][1:]:
        if feed in firsts:
            found.add(firsts[feed])
        else:
            found |= first_gates(net, feed, firsts)
    return found


def is_promised(one, other, pairs):
    """Whether the document promises that a paper is found, for pairs that tell all keep gates or none."""
    keeps = [pair for pair in pairs if one.gates[pair[0]][0] == "keep" and other.gates[pair[1]][0] == "keep"]
    met = dict(keeps) if keeps else dict(zip(keeps_of(one), keeps_of(other)))
    paper = [(one_in, other_in, []) for one_in, other_in in zip(ins_of(one), ins_of(other))]
    paper += [(number, met[number], []) for number in keeps_of(one)]
    if any(one.gates[number][1] != other.gates[met[number]][1] for number in met):
        return False
    firsts = ({}, {})

    def note(number):
        for side, net in enumerate((one, other)):
            gate = paper[number][side]
            if net.gates[gate][0] not in ("zero", "one"):
                firsts[side].setdefault(gate, number)

    def shown(pair):
        if pair in [meet[:2] for meet in paper]:
            return True
        sides = [first_gates(net, gate, first) for net, gate, first in zip((one, other), pair, firsts)]
        for leaves in (sides[0] | sides[1], sides[0], sides[1]):
            if len(leaves) <= 6 and plainly_met(one, other, paper, pair + (sorted(leaves),)):
                paper.append(pair + (sorted(leaves),))
                return True
        return False

    for number in range(len(paper)):
        note(number)
    for pair in pairs:
        if not shown(pair):
            return False
        note([meet[:2] for meet in paper].index(pair))
    ends = list(zip(one.outs, other.outs))
    ends += [(one.gates[number][2], other.gates[met[number]][2]) for number in met]
    return all(shown(pair) for pair in ends)


def joined(word, order):
    """A net whose out joins in gates by a word in this order."""
    count = len(order)
    gates = [("in",)] * count + [(word, order[0], order[1])]
    for number in order[2:]:
        gates.append((word, len(gates) - 1, number))
    return Net(gates, [len(gates) - 1])


class MeetsTest(unittest.TestCase):
    def found(self, one, other, pairs):
        """The paper, which is taken and has all pairs, or None."""
        paper = meets_of(one, other, pairs)
        if paper is not None:
            self.assertIs(type(paper), list)
            self.assertTrue(all(type(meet) is tuple and type(meet[2]) is list for meet in paper))
            self.assertIs(alike_holds(one, other, paper), True)
            together = [meet[:2] for meet in paper]
            for pair in pairs:
                self.assertIn(tuple(pair), together)
        return paper

    def assert_found(self, one, other, pairs):
        self.assertIsNotNone(self.found(one, other, pairs))

    def test_nothing(self):
        self.assertEqual(meets_of(Net([], []), Net([], []), []), [])
        self.assertEqual(meets_of(Net([("in",)], []), Net([("in",)], []), ()), [(0, 0, [])])

    def test_five_and_six_in_gates_in_two_orders(self):
        for count in (2, 3, 5, 6):
            for word in ("and", "or", "xor"):
                one = joined(word, list(range(count)))
                for seed in range(6):
                    order = random.Random(seed).sample(range(count), count)
                    self.assert_found(one, joined(word, order), [])
                self.assertIsNone(self.found(one, joined({"and": "or", "or": "xor", "xor": "and"}[word], order), []))

    def test_nets_that_differ_at_one_row(self):
        for count in (3, 6):
            one = joined("and", list(range(count)))
            nothing = Net([("in",)] * count + [("zero",)], [count])
            self.assertIsNone(meets_of(one, nothing, []))
            self.assertIsNone(meets_of(nothing, one, []))
            gates = list(one.gates)
            gates[-1] = ("xor",) + gates[-1][1:]
            self.assertIsNone(meets_of(one, Net(gates, one.outs), []))

    def test_numbers_that_differ(self):
        one = Net([("in",), ("in",), ("keep", 0, 0)], [0])
        for other in (Net([("in",), ("keep", 0, 0)], [0]), Net([("in",)] * 3 + [("keep", 0, 0)], [0]),
                      Net([("in",), ("in",)], [0]), Net([("in",), ("in",), ("keep", 0, 0), ("keep", 0, 0)], [0]),
                      Net([("in",), ("in",), ("keep", 0, 0)], []), Net([("in",), ("in",), ("keep", 0, 0)], [0, 0])):
            self.assertIsNone(meets_of(one, other, []))
            self.assertIsNone(meets_of(other, one, []))
        self.assert_found(one, one, [])

    def test_numbers_of_gates_that_differ(self):
        for seed in range(30):
            one = random_net(seed, 20)
            other, pairs = rewritten(one, seed)
            if len(other.gates) != len(one.gates):
                self.assert_found(one, other, pairs)
                self.assert_found(other, one, [(second, first) for first, second in pairs])

    def test_a_ladder(self):
        ladders = []
        for word in ("and", "or"):
            gates = [("in",)] + [(word, number, number) for number in range(200)]
            ladders.append(Net(gates, [200]))
        self.assert_found(ladders[0], ladders[1], [])
        self.assert_found(ladders[0], ladders[1], [(number, number) for number in range(201)])
        self.assert_found(ladders[0], Net([("in",)], [0]), [])
        self.assertIsNone(meets_of(ladders[0], Net([("in",), ("not", 0)], [1]), []))

    def test_every_pair_of_rewritten_nets(self):
        for seed in range(80):
            one = random_net(seed, 45)
            other, pairs = rewritten(one, seed)
            self.assert_found(one, other, pairs)
            self.assert_found(one, other, [list(pair) for pair in pairs])
            self.assert_found(one, other, tuple(pairs))

    def test_pairs_told_twice(self):
        for seed in range(20):
            one = random_net(seed, 25)
            other, pairs = rewritten(one, seed)
            self.assert_found(one, other, pairs + pairs)
            self.assert_found(one, other, [pair for pair in pairs for count in range(2)])

    def test_a_gate_in_several_pairs(self):
        one = Net([("in",), ("in",), ("xor", 0, 1), ("xor", 2, 2)], [3])
        # gates 3 and 5 both have what gate 2 of the first net has
        other = Net([("in",), ("in",), ("zero",), ("xor", 0, 1), ("not", 1), ("pick", 0, 4, 1), ("xor", 3, 5)], [6])
        paper = self.found(one, other, [(2, 3), (2, 5)])
        self.assertIsNotNone(paper)
        self.assertTrue(is_promised(one, other, [(2, 3), (2, 5)]))

    def test_what_is_promised_is_found(self):
        told = []
        for seed in range(250):
            source = random.Random(seed)
            one = random_net(seed, source.choice((12, 20, 30)))
            other, pairs = rewritten(one, seed)
            keeps = [pair for pair in pairs if one.gates[pair[0]][0] == "keep"]
            in_order = sorted(keeps) == list(zip(keeps_of(one), keeps_of(other)))
            some = source.choice((keeps, [])) if in_order else keeps
            others = [pair for pair in pairs if pair not in keeps]
            some = some + [pair for pair in others if source.random() < source.choice((0.3, 0.7, 0.9))]
            if source.random() < 0.2:
                # a net that differs
                gates = list(other.gates)
                gates.append(("not", other.outs[0]) if other.outs else ("one",))
                other = Net(gates, [len(gates) - 1] + list(other.outs[1:]) if other.outs else [])
            promised = is_promised(one, other, some)
            paper = self.found(one, other, some)
            if promised:
                self.assertIsNotNone(paper, seed)
            told.append((promised, paper is not None))
        self.assertGreater(told.count((True, True)), 80)
        self.assertGreater(told.count((False, False)), 15)

    def test_keep_gates_in_order_where_none_is_told(self):
        one = Net([("keep", 0, 2), ("keep", 1, 0), ("not", 1)], [0, 1])
        self.assert_found(one, one, [])
        self.assert_found(one, one, [(2, 2)])
        turned = Net([("keep", 1, 1), ("keep", 0, 2), ("not", 0)], [1, 0])
        self.assertIsNone(meets_of(one, turned, []))
        self.assert_found(one, turned, [(0, 1), (1, 0)])
        self.assert_found(one, turned, [(1, 0), (0, 1), (2, 2)])
        self.assertIsNone(meets_of(one, turned, [(0, 0), (1, 1)]))
        self.assertIsNone(meets_of(one, turned, [(0, 1), (1, 1)]))

    def test_keep_gates_of_unlike_first_values(self):
        for first in (0, 1):
            one = Net([("keep", first, 0)], [0])
            self.assert_found(one, one, [(0, 0)])
            self.assertIsNone(meets_of(one, Net([("keep", 1 - first, 0)], [0]), [(0, 0)]))
            self.assertIsNone(meets_of(one, Net([("keep", 1 - first, 0)], [0]), []))

    def test_keep_feeds_without_pairs(self):
        one = Net([("in",), ("keep", 0, 2), ("xor", 0, 1)], [1])
        other = Net([("in",), ("keep", 0, 3), ("not", 1), ("pick", 0, 2, 1)], [1])
        self.assert_found(one, other, [])
        other = Net([("in",), ("keep", 0, 3), ("not", 1), ("pick", 0, 1, 2)], [1])
        self.assertIsNone(meets_of(one, other, []))

    def test_pairs_of_a_keep_gate_with_another_gate(self):
        # what the second keep gate is fed with is a keep gate in one net and a pick in the other
        one = Net([("keep", 1, 0), ("keep", 0, 0)], [1])
        other = Net([("keep", 1, 4), ("keep", 0, 4), ("one",), ("zero",), ("pick", 0, 2, 3)], [1])
        self.assert_found(one, other, [])
        self.assert_found(one, other, [(0, 0), (1, 1), (0, 4)])
        self.assert_found(other, one, [(0, 0), (1, 1), (4, 0)])

    def test_zero_and_one_gates_are_no_leaves(self):
        one = Net([("in",), ("zero",), ("or", 0, 1)], [2])
        other = Net([("in",), ("zero",), ("or", 1, 0)], [2])
        self.assert_found(one, other, [(1, 1)])
        # a zero gate that is met by another one is still a zero gate
        other = Net([("in",), ("zero",), ("and", 0, 0)], [2])
        self.assert_found(one, other, [(1, 1)])
        self.assertTrue(is_promised(one, other, [(1, 1)]))
        self.assertIsNone(meets_of(one, other, [(1, 2)]))
        # were the zero gates leaves, both could be 1, and the gates would differ there
        other = Net([("in",), ("zero",), ("xor", 0, 1)], [2])
        self.assert_found(one, other, [(1, 1)])
        one = Net([("in",), ("one",), ("and", 0, 1)], [2])
        other = Net([("in",), ("one",), ("xor", 0, 1), ("not", 2)], [3])
        self.assert_found(one, other, [(1, 1)])

    def test_pairs_that_do_not_meet(self):
        one = Net([("in",), ("in",), ("and", 0, 1), ("or", 0, 1)], [2])
        self.assert_found(one, one, [(2, 2), (3, 3)])
        self.assertIsNone(meets_of(one, one, [(2, 3)]))
        self.assertIsNone(meets_of(one, one, [(0, 1)]))
        self.assertIsNone(meets_of(one, one, [(0, 2)]))
        self.assert_found(one, one, [(0, 0), (1, 1)])

    def test_six_leaves_of_both_together(self):
        # in each net the gates ahead are other ones: three pairs in one, three in gates in the other
        gates = [("in",)] * 3 + [("not", 0), ("not", 1), ("not", 2)]
        one = Net(gates + [("and", 3, 4), ("and", 6, 5)], [7])
        other = Net(gates + [("or", 0, 1), ("or", 6, 2), ("not", 7)], [8])
        self.assert_found(one, other, [])
        # with the nots met, only the union or the second net's leaves show it
        self.assertEqual(self.found(one, other, [(3, 3), (4, 4), (5, 5)]) is not None,
                         is_promised(one, other, [(3, 3), (4, 4), (5, 5)]))

    def test_leaves_of_one_gate_alone(self):
        # seven in gates lead to the first net's out, but one pair alone to the second net's
        chain = joined("or", list(range(7)))
        one = Net(list(chain.gates) + [("not", 12)], [13])
        self.assertEqual(chain.outs, (12,))
        pairs = [(7 + number, 7 + number) for number in range(6)]
        self.assert_found(one, one, pairs)
        # the last gate is made of in gates and of the pair in the first net, of the pair alone in the second
        wide = Net(list(chain.gates) + [("and", 12, 0), ("or", 13, 1), ("and", 12, 14), ("or", 12, 15)], [16])
        narrow = Net(list(chain.gates) + [("and", 12, 12)], [13])
        self.assert_found(wide, wide, pairs)
        for order in itertools.permutations((wide, narrow)):
            self.assertEqual(self.found(order[0], order[1], pairs) is not None, is_promised(order[0], order[1], pairs))
            self.assertTrue(is_promised(order[0], order[1], pairs))

    def test_leaves_of_both_gates_together(self):
        # a gate of each net stands in two pairs, and each net's gate is made of the one whose pair comes second
        gates = [("in",)] * 4
        one = Net(gates + [("and", 0, 1), ("or", 2, 3), ("or", 3, 2), ("and", 4, 6)], [7])
        other = Net(gates + [("and", 0, 1), ("and", 1, 0), ("or", 2, 3), ("and", 5, 6)], [7])
        pairs = [(4, 4), (4, 5), (5, 6), (6, 6)]
        self.assertTrue(is_promised(one, other, pairs))
        self.assert_found(one, other, pairs)

    def test_more_than_eight_leaves_of_one_gate_and_few_of_the_other(self):
        # of all ands and xors of four in gates together comes their or
        gates = [("in",)] * 4
        sides = list(itertools.combinations(range(4), 2))
        inner = gates + [("and",) + pair for pair in sides] + [("xor",) + pair for pair in sides]
        wide = inner + [("or", 4, 5)]
        for number in range(6, 16):
            wide.append(("or", len(wide) - 1, number))
        one = Net(wide, [len(wide) - 1])
        other = Net(inner + [("or", 0, 1), ("or", 16, 2), ("or", 17, 3)], [18])
        pairs = [(number, number) for number in range(4, 16)]
        for nets in ((one, other), (other, one)):
            self.assertTrue(is_promised(nets[0], nets[1], pairs))
            self.assert_found(nets[0], nets[1], pairs)

    def test_pairs_are_leaves_where_there_are_many_in_gates(self):
        one = joined("and", list(range(30)))
        for order in (list(range(30)), [1, 0] + list(range(2, 30))):
            other = joined("and", order)
            self.assert_found(one, other, [(number, number) for number in range(30, 59)])
            self.assertIsNone(meets_of(one, other, []))
        for seed in range(20):
            one = wide_net(seed, 20, 40)
            other, pairs = rewritten(one, seed)
            self.assert_found(one, other, pairs)

    def test_opened_tables(self):
        for seed in range(40):
            tables = random_tables(seed, 15)
            one, numbers = opened_net(tables)
            turned = [(tuple(reversed(leaves)), turned_bits(len(leaves), bits)) for leaves, bits in tables.tables]
            other, others = opened_net(Tables(tables.ins, turned, tables.keeps, tables.outs))
            self.assert_found(one, other, list(zip(numbers, others)))

    def test_what_is_told_is_the_askers_own(self):
        one = random_net(3, 30)
        other, pairs = rewritten(one, 3)
        handed = list(pairs)
        paper = meets_of(one, other, handed)
        self.assertEqual(handed, pairs)
        found = lists_in(paper)
        self.assertEqual(len({id(part) for part in found}), len(paper) + 1)
        for part in found:
            part.clear()
        self.assert_found(one, other, pairs)


def turned_bits(count, bits):
    """The bits of a table whose leaves are turned about."""
    told = 0
    for number in range(2 ** count):
        fed = [number // 2 ** place % 2 for place in range(count)]
        told += (bits // 2 ** sum(bit * 2 ** place for place, bit in enumerate(reversed(fed))) % 2) * 2 ** number
    return told


if __name__ == "__main__":
    unittest.main()
