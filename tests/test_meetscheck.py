"""Papers of meets, looked at."""

import random
import unittest

from bitfloor.meets import meets_of
from bitfloor.meetscheck import alike_holds
from bitfloor.netplay import NetPlayer
from bitfloor.nets import Net, ins_of, keeps_of
from samples import (
    STRANGE, bit_by, exchanged, plainly_met, plainly_shut, random_bits, random_net, rewritten, same_papers, with_kind,
)

# keeps and tells the sum of what was fed, bit by bit
ONE = Net([("in",), ("in",), ("keep", 0, 4), ("xor", 0, 1), ("xor", 3, 2)], [4, 3])
OTHER = Net([("keep", 0, 8), ("in",), ("in",), ("or", 1, 2), ("and", 1, 2), ("not", 4), ("and", 3, 5), ("not", 6),
             ("pick", 0, 7, 6)], [8, 6])
PAPER = [(0, 1, []), (1, 2, []), (2, 0, []), (3, 6, [0, 1]), (4, 8, [3, 2])]


def plain_alike(one, other, paper):
    """Whether a paper of the right form holds, by the document's words."""
    sides = [(ins_of(net), keeps_of(net)) for net in (one, other)]
    if [len(part) for part in sides[0]] != [len(part) for part in sides[1]] or len(one.outs) != len(other.outs):
        return False
    count = len(sides[0][0])
    total = count + len(sides[0][1])
    if [meet[0] for meet in paper[:total]] != sides[0][0] + sides[0][1] or any(meet[2] for meet in paper[:total]):
        return False
    others = [meet[1] for meet in paper[:total]]
    if others[:count] != sides[1][0] or sorted(others[count:]) != sides[1][1]:
        return False
    if any(one.gates[meet[0]][1] != other.gates[meet[1]][1] for meet in paper[count:total]):
        return False
    for number, meet in enumerate(paper):
        if len(meet[2]) > 8 or any(leaf >= number for leaf in meet[2]):
            return False
        if number >= total and not plainly_met(one, other, paper, meet):
            return False
    wanted = list(zip(one.outs, other.outs))
    wanted += [(one.gates[meet[0]][2], other.gates[meet[1]][2]) for meet in paper[count:total]]
    return all(pair in [tuple(meet[:2]) for meet in paper] for pair in wanted)


def ins_net(count, gates, outs):
    return Net([("in",)] * count + gates, outs)


class AlikeTest(unittest.TestCase):
    def holds(self, paper, one=ONE, other=OTHER):
        answer = alike_holds(one, other, paper)
        self.assertIs(type(answer), bool)
        return answer

    def test_by_hand(self):
        self.assertTrue(self.holds(PAPER))
        self.assertTrue(plain_alike(ONE, OTHER, PAPER))
        for kind in (list, tuple):
            self.assertTrue(self.holds(with_kind(PAPER, kind)))

    def test_nothing(self):
        empty = Net([], [])
        self.assertTrue(alike_holds(empty, empty, []))
        self.assertTrue(alike_holds(empty, empty, ()))
        self.assertTrue(alike_holds(empty, Net([("one",)], []), []))
        self.assertFalse(alike_holds(empty, Net([("in",)], []), []))

    def test_the_beginning(self):
        self.assertFalse(self.holds(PAPER[1:]))
        self.assertFalse(self.holds([PAPER[1], PAPER[0]] + PAPER[2:]))
        self.assertFalse(self.holds([(0, 2, []), (1, 1, [])] + PAPER[2:]))
        self.assertFalse(self.holds([PAPER[0], PAPER[2], PAPER[1]] + PAPER[3:]))
        self.assertFalse(self.holds(PAPER[:2]))
        self.assertFalse(self.holds([]))
        for number in (1, 2):
            meet = PAPER[number]
            self.assertFalse(self.holds(PAPER[:number] + [meet[:2] + ([0],)] + PAPER[number + 1:]))
        for other in (1, 3, 8):
            self.assertFalse(self.holds(PAPER[:2] + [(2, other, [])] + PAPER[3:]))

    def test_keep_gates_in_any_order_but_none_twice(self):
        one = Net([("keep", 1, 1), ("keep", 1, 2), ("keep", 0, 0)], [0])
        other = Net([("keep", 0, 2), ("keep", 1, 0), ("keep", 1, 1)], [2])
        paper = [(0, 2, []), (1, 1, []), (2, 0, [])]
        self.assertTrue(self.holds(paper, one, other))
        # what the keep gates are fed with stands in no tuple then
        self.assertFalse(self.holds([(0, 1, []), (1, 2, []), (2, 0, [])], one, other))
        self.assertFalse(self.holds([(0, 2, []), (1, 2, []), (2, 0, [])], one, other))
        self.assertFalse(self.holds([(1, 1, []), (0, 2, []), (2, 0, [])], one, other))

    def test_a_keep_gate_that_meets_one_twice(self):
        one = Net([("keep", 0, 0), ("keep", 0, 1)], [])
        self.assertTrue(self.holds([(0, 0, []), (1, 1, [])], one, one))
        self.assertFalse(self.holds([(0, 0, []), (1, 0, [])], one, one))
        self.assertFalse(self.holds([(0, 1, []), (1, 1, [])], one, one))

    def test_first_values(self):
        for first in (0, 1):
            one = Net([("keep", first, 0)], [0])
            for other_first in (0, 1):
                other = Net([("keep", other_first, 0)], [0])
                self.assertEqual(self.holds([(0, 0, [])], one, other), first == other_first)

    def test_numbers_that_differ(self):
        one = ins_net(2, [], [0])
        for other in (ins_net(1, [], [0]), ins_net(3, [], [0]), ins_net(2, [], []), ins_net(2, [], [0, 0]),
                      Net([("in",), ("in",), ("keep", 0, 2)], [0])):
            for count in range(4):
                paper = [(number, number, []) for number in range(count)]
                self.assertFalse(self.holds(paper, one, other))
                self.assertFalse(self.holds(paper, other, one))

    def test_leaves_ahead_and_not_ahead(self):
        for leaf in (3, 4, 5, 100, -1, 10 ** 30):
            self.assertFalse(self.holds(PAPER[:3] + [(3, 6, [0, leaf])] + PAPER[4:]))
        self.assertFalse(self.holds(PAPER[:4] + [(4, 8, [4, 2])]))
        # the keep gate stands ahead too; asked or not, it changes nothing
        self.assertTrue(self.holds(PAPER[:3] + [(3, 6, [2, 0, 1])] + PAPER[4:]))
        self.assertTrue(self.holds(PAPER[:4] + [(4, 8, [0, 1, 2])]))

    def test_leaves_that_stand_twice(self):
        self.assertTrue(self.holds(PAPER[:3] + [(3, 6, [0, 1, 1, 0])] + PAPER[4:]))

    def test_leaves_that_do_not_shut_off(self):
        for leaves in ([], [0], [1], [2], [0, 2], [1, 2]):
            self.assertFalse(self.holds(PAPER[:3] + [(3, 6, leaves)] + PAPER[4:]))
        for leaves in ([], [3], [2], [0, 1], [0, 2], [3, 0, 1]):
            self.assertFalse(self.holds(PAPER[:4] + [(4, 8, leaves)]))
        # both gates are shut off by no leaves at all
        one = Net([("one",), ("not", 0)], [1])
        other = Net([("zero",)], [0])
        self.assertTrue(self.holds([(1, 0, [])], one, other))
        self.assertFalse(self.holds([(1, 0, [])], one, Net([("one",)], [0])))
        # the first is shut off, the second is not
        one = ins_net(1, [("zero",), ("and", 0, 1)], [2])
        other = ins_net(1, [("zero",), ("and", 0, 1), ("and", 1, 2)], [3])
        self.assertTrue(self.holds([(0, 0, []), (2, 3, [0])], one, other))
        self.assertFalse(self.holds([(0, 0, []), (2, 3, [])], one, other))

    def test_a_bit_that_differs_at_one_row_alone(self):
        count = 8
        chain = [("and", 0, 1)] + [("and", count + number, 2 + number) for number in range(count - 2)]
        one = ins_net(count, chain, [len(chain) + count - 1])
        other = ins_net(count, [("zero",)], [count])
        begin = [(number, number, []) for number in range(count)]
        self.assertFalse(self.holds(begin + [(one.outs[0], count, list(range(count)))], one, other))
        # with a zero among the gates both are always 0
        one = ins_net(count, [("zero",), ("and", 0, count)] + [("and", count + 1 + number, 1 + number) for number in range(7)],
                      [16])
        self.assertTrue(self.holds(begin + [(16, count, list(range(count)))], one, other))

    def test_eight_leaves_and_nine(self):
        for count in (8, 9):
            gates = [("or", 0, 1)] + [("or", count + number, 2 + number) for number in range(count - 2)]
            one = ins_net(count, gates, [len(gates) + count - 1])
            begin = [(number, number, []) for number in range(count)]
            meet = (one.outs[0], one.outs[0], list(range(count)))
            self.assertEqual(self.holds(begin + [meet], one, one), count == 8)
        self.assertTrue(self.holds(begin + [(9, 9, [0, 1]), (one.outs[0], one.outs[0], [9] + list(range(2, 9)))], one, one))
        self.assertFalse(self.holds(PAPER[:3] + [(3, 6, [0, 1] * 4 + [0])] + PAPER[4:]))
        self.assertTrue(self.holds(PAPER[:3] + [(3, 6, [0, 1] * 4)] + PAPER[4:]))

    def test_gates_that_are_a_leafs(self):
        # the out is an in gate in one net and a pick that tells the same in the other
        one = ins_net(1, [], [0])
        other = ins_net(1, [("one",), ("zero",), ("pick", 0, 1, 2)], [3])
        self.assertTrue(self.holds([(0, 0, []), (0, 3, [0])], one, other))
        self.assertFalse(self.holds([(0, 0, []), (0, 3, [])], one, other))
        self.assertTrue(self.holds([(0, 0, []), (0, 3, [0]), (0, 3, [1])], one, other))
        turned = ins_net(1, [("one",), ("zero",), ("pick", 0, 2, 1)], [3])
        self.assertFalse(self.holds([(0, 0, []), (0, 3, [0])], one, turned))
        # a gate that stands together with itself ahead
        self.assertTrue(self.holds(PAPER + [(4, 8, [4])]))
        self.assertTrue(self.holds(PAPER + [(3, 6, [3])]))
        self.assertFalse(self.holds(PAPER + [(3, 8, [3, 4])]))

    def test_leaves_that_share_a_gate(self):
        # gates 2 and 3 of the other net both have what gate 1 of the first has
        one = ins_net(1, [("not", 0), ("xor", 1, 1)], [2])
        other = ins_net(1, [("one",), ("not", 0), ("xor", 0, 1), ("xor", 2, 3)], [4])
        paper = [(0, 0, []), (1, 2, [0]), (1, 3, [0]), (2, 4, [1, 2])]
        self.assertTrue(self.holds(paper, one, other))
        self.assertTrue(plain_alike(one, other, paper))
        # turned about, so that the second net has the shared gate
        self.assertTrue(self.holds([(0, 0, []), (2, 1, [0]), (3, 1, [0]), (4, 2, [1, 2])], other, one))
        # where they are two gates in both nets, the row in which they differ counts
        pair = ins_net(1, [("not", 0), ("not", 0), ("xor", 1, 2), ("zero",)], [3])
        self.assertFalse(self.holds([(0, 0, []), (1, 1, [0]), (2, 2, [0]), (3, 4, [1, 2])], pair, pair))

    def test_keep_feeds_and_outs_that_stand_in_no_tuple(self):
        self.assertFalse(self.holds(PAPER[:4]))
        self.assertFalse(self.holds(PAPER[:3] + [(4, 8, [0, 1, 2])]))
        one = Net([("in",), ("keep", 1, 2), ("not", 1)], [0])
        self.assertTrue(self.holds([(0, 0, []), (1, 1, []), (2, 2, [1])], one, one))
        self.assertFalse(self.holds([(0, 0, []), (1, 1, [])], one, one))
        for outs in ([1], [0, 1]):
            one = ins_net(1, [("not", 0)], outs)
            self.assertTrue(self.holds([(0, 0, []), (1, 1, [0])], one, one))
            self.assertFalse(self.holds([(0, 0, [])], one, one))
        # they stand there, but not together
        one = ins_net(1, [("not", 0), ("not", 0)], [1])
        other = ins_net(1, [("not", 0), ("not", 0)], [2])
        self.assertFalse(self.holds([(0, 0, []), (1, 1, [0]), (2, 2, [0])], one, other))
        self.assertTrue(self.holds([(0, 0, []), (1, 1, [0]), (1, 2, [0])], one, other))

    def test_papers_by_feeds(self):
        for seed in range(60):
            one = random_net(seed, 40)
            other, pairs = rewritten(one, seed)
            sources = ins_of(one) + keeps_of(one)
            met = dict(pairs)
            paper = [(number, met[number], []) for number in sources]
            spots = {number: spot for spot, number in enumerate(sources)}
            for number, gate in enumerate(one.gates):
                if number not in sources:
                    paper.append((number, met[number], sorted({spots[feed] for feed in gate[1:]})))
                    spots[number] = len(paper) - 1
            self.assertTrue(self.holds(paper, one, other))
            self.assertTrue(plain_alike(one, other, paper))
            players = (NetPlayer(one), NetPlayer(other))
            for row in random_bits(seed, 6, len(ins_of(one))):
                self.assertEqual(players[0].beat(row), players[1].beat(row))

    def test_papers_bent(self):
        told = []
        for seed in range(40):
            source = random.Random(seed)
            one = random_net(seed, 25)
            other, pairs = rewritten(one, seed)
            paper = meets_of(one, other, pairs)
            self.assertTrue(self.holds(paper, one, other))
            for turn in range(20):
                bent = self.bent(source, one, other, paper)
                answer = self.holds(bent, one, other)
                self.assertEqual(answer, plain_alike(one, other, bent))
                told.append(answer)
        self.assertGreater(told.count(False), 300)
        self.assertGreater(told.count(True), 50)

    def bent(self, source, one, other, paper):
        number = source.randrange(len(paper))
        meet = list(paper[number])
        meet[2] = list(meet[2])
        kind = source.randrange(4)
        if kind == 0:
            meet[0] = source.randrange(len(one.gates))
        elif kind == 1:
            meet[1] = source.randrange(len(other.gates))
        elif kind == 2 and meet[2]:
            meet[2].pop(source.randrange(len(meet[2])))
        else:
            meet[2].append(source.randrange(max(1, number)))
        return paper[:number] + [tuple(meet)] + paper[number + 1:]

    def test_wrong_forms(self):
        for strange in STRANGE + (None, [], (), "01"):
            for paper in exchanged(PAPER, strange):
                if not same_papers(paper, PAPER):
                    self.assertFalse(self.holds(paper), paper)
        for meet in ((3, 6), (3, 6, [0, 1], 0), (3, 6, 0, 1), (5, 6, [0, 1]), (3, 9, [0, 1]), (3, -3, [0, 1])):
            self.assertFalse(self.holds(PAPER[:3] + [meet] + PAPER[4:]))

    def test_deep_nets(self):
        gates = [("in",)] + [("and", number, number) for number in range(390)]
        one = Net(gates, [390])
        other = Net([("in",)] + [("or", number, number) for number in range(390)], [390])
        self.assertTrue(self.holds([(0, 0, []), (390, 390, [0])], one, other))
        other = Net(list(other.gates) + [("not", 390)], [391])
        self.assertFalse(self.holds([(0, 0, []), (390, 391, [0])], one, other))

    def test_nothing_is_changed(self):
        paper = with_kind(PAPER, list)
        self.holds(paper)
        self.assertEqual(paper, with_kind(PAPER, list))


class HelpersTest(unittest.TestCase):
    """What the tests hold the program against."""

    def test_bit_by(self):
        for seed in range(20):
            net = random_net(seed, 20)
            for gate in range(len(net.gates)):
                if net.gates[gate][0] not in ("in", "keep"):
                    shut = plainly_shut(net, net.gates[gate][1:], gate)
                    self.assertEqual(bit_by(net, gate, {feed: 0 for feed in net.gates[gate][1:]}) is not None, shut)


if __name__ == "__main__":
    unittest.main()
