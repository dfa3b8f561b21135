"""Nets made small: their papers, what they tell and the form that they have."""

import itertools
import unittest

from bitfloor.netplay import NetPlayer
from bitfloor.nets import Net, feeds_of, ins_of
from bitfloor.raising import raised
from bitfloor.reading import read_modules
from bitfloor.shrinking import made_small
from bitfloor.smallcheck import small_holds
from samples import TWO_SIDED, TextMaker, random_bits, random_net

CONSTANTS = ("zero", "one")


def counted(net):
    return len([gate for gate in net.gates if gate[0] not in CONSTANTS])


def twins(gate):
    """A gate, and the same one with its two feeds exchanged."""
    if gate[0] in TWO_SIDED:
        return (gate, (gate[0], gate[2], gate[1]))
    return (gate,)


class SmallCase(unittest.TestCase):
    def assert_small(self, net, beats=12):
        """All that is promised of a net made small; tells the small net."""
        before = (net.gates, net.outs)
        told = made_small(net)
        self.assertIsInstance(told, tuple)
        small, paper = told
        self.assertIsInstance(small, Net)
        self.assertIs(small_holds(net, small, paper), True)
        self.assertEqual((net.gates, net.outs), before)
        self.assert_paper(paper)
        self.assert_form(net, small)
        self.assert_tells(net, small, beats)
        return small

    def assert_paper(self, paper):
        self.assertIsInstance(paper, tuple)
        self.assertEqual(len(paper), 2)
        for side in paper:
            self.assertIsInstance(side, list)
            for thing in side:
                self.assertIsInstance(thing, tuple)

    def assert_tells(self, net, small, beats):
        one = NetPlayer(net)
        other = NetPlayer(small)
        count = len(ins_of(net))
        rows = random_bits(7, beats, count)
        if count <= 4:
            rows += [list(row) for row in itertools.product((0, 1), repeat=count)]
        for row in rows:
            self.assertEqual(one.beat(row), other.beat(row))

    def assert_form(self, net, small):
        gates = small.gates
        words = [gate[0] for gate in gates]
        self.assertLessEqual(counted(small), counted(net))
        self.assertEqual(len(ins_of(small)), len(ins_of(net)))
        for word in CONSTANTS:
            self.assertLessEqual(words.count(word), 1)
        seen = set()
        fed = set()
        for number, gate in enumerate(gates):
            feeds = feeds_of(gate)
            fed.update(feeds)
            steady = [words[feed] in CONSTANTS for feed in feeds]
            if gate[0] == "pick":
                self.assertFalse(steady[0] or (steady[1] and steady[2]), gate)
                self.assertNotEqual(gate[2], gate[3])
            elif gate[0] != "keep":
                self.assertFalse(any(steady), gate)
            if gate[0] == "not":
                self.assertNotEqual(words[gate[1]], "not")
            if gate[0] in TWO_SIDED:
                self.assertNotEqual(gate[1], gate[2])
            if gate[0] not in ("in", "keep"):
                self.assertTrue(seen.isdisjoint(twins(gate)), gate)
                seen.add(gate)
        for number, word in enumerate(words):
            self.assertTrue(word == "in" or number in fed or number in small.outs, number)

    def small_of(self, gates, outs):
        return self.assert_small(Net(gates, outs))

    def assert_words(self, gates, outs, words):
        """The words of the small net's gates that are no in gates, in whatever order."""
        told = [gate[0] for gate in self.small_of(gates, outs).gates if gate[0] != "in"]
        self.assertEqual(sorted(told), sorted(words), gates)


class FormTest(SmallCase):
    def test_chains_of_nots(self):
        for length in range(1, 9):
            gates = [("in",)] + [("not", number) for number in range(length)]
            self.assert_words(gates, [length], ["not"] * (length % 2))
            self.assert_words(gates, list(range(length + 1)), ["not"])
        self.assert_words([("zero",), ("not", 0), ("not", 1), ("not", 2)], [3], ["one"])

    def test_every_word_with_every_feeds(self):
        # two ins, both constants, nots of an in, and a gate of two sides each
        base = [("in",), ("in",), ("zero",), ("one",), ("not", 0), ("not", 1)]
        base += [("and", 0, 1), ("or", 1, 0), ("xor", 0, 1)]
        for word in TWO_SIDED:
            for x, y in itertools.product(range(len(base)), repeat=2):
                gates = base + [(word, x, y)]
                self.small_of(gates, [9])
                self.small_of(gates + [("not", 9), ("and", 9, 0)], [0, 10, 11, 9])
        for x in range(len(base)):
            self.small_of(base + [("not", x)], [9])
            for first in (0, 1):
                self.small_of(base + [("keep", first, x)], [9])
        for feeds in itertools.product(range(6), repeat=3):
            gates = base + [("pick",) + feeds]
            self.small_of(gates, [9])
            self.small_of(gates + [("not", 9), ("xor", 9, 3)], [10, 11])

    def test_what_becomes_of_words_fed_by_constants(self):
        # zero is gate 1, one is gate 2, the gate is number 3
        cases = (
            (("not", 1), ["one"]), (("not", 2), ["zero"]),
            (("and", 0, 1), ["zero"]), (("and", 1, 0), ["zero"]), (("and", 0, 2), []), (("and", 2, 0), []),
            (("and", 1, 1), ["zero"]), (("and", 2, 2), ["one"]), (("and", 1, 2), ["zero"]), (("and", 0, 0), []),
            (("or", 0, 1), []), (("or", 1, 0), []), (("or", 0, 2), ["one"]), (("or", 2, 0), ["one"]),
            (("or", 1, 1), ["zero"]), (("or", 2, 2), ["one"]), (("or", 1, 2), ["one"]), (("or", 0, 0), []),
            (("xor", 0, 1), []), (("xor", 1, 0), []), (("xor", 0, 2), ["not"]), (("xor", 2, 0), ["not"]),
            (("xor", 1, 1), ["zero"]), (("xor", 2, 2), ["zero"]), (("xor", 1, 2), ["one"]), (("xor", 0, 0), ["zero"]),
            (("pick", 1, 0, 2), ["one"]), (("pick", 2, 0, 1), []), (("pick", 0, 1, 1), ["zero"]),
            (("pick", 0, 2, 2), ["one"]), (("pick", 0, 2, 1), []), (("pick", 0, 1, 2), ["not"]),
            (("pick", 0, 0, 0), []), (("pick", 0, 0, 1), ["zero", "pick"]), (("pick", 0, 2, 0), ["one", "pick"]),
        )
        for gate, words in cases:
            self.assert_words([("in",), ("zero",), ("one",), gate], [3], words)

    def test_gates_and_their_nots(self):
        gates = [("in",), ("not", 0)]
        for word, steady in (("and", "zero"), ("or", "one"), ("xor", "one")):
            for feeds in ((0, 1), (1, 0)):
                self.assert_words(gates + [(word,) + feeds], [2], [steady])
        # the not of a not is the gate itself, whatever makes it a not
        gates = [("in",), ("one",), ("xor", 0, 1), ("xor", 1, 2), ("zero",), ("pick", 3, 4, 1), ("not", 5)]
        self.assert_words(gates, [2, 3, 5, 6], ["not"])

    def test_like_gates_become_one(self):
        for word in TWO_SIDED:
            gates = [("in",), ("in",), (word, 0, 1), (word, 0, 1), (word, 1, 0)]
            self.assert_words(gates, [2, 3, 4], [word])
            self.assert_words(gates, [4, 3], [word])
        gates = [("in",), ("in",), ("pick", 0, 1, 1), ("in",), ("pick", 0, 1, 3), ("pick", 0, 1, 3), ("pick", 0, 3, 1)]
        self.assert_words(gates, [2, 4, 5, 6], ["pick", "pick"])
        self.assert_words([("zero",), ("zero",), ("one",), ("one",)], [0, 1, 2, 3], ["zero", "one"])

    def test_gates_that_become_alike_only_behind_others(self):
        gates = [("in",), ("in",), ("not", 0), ("not", 2), ("one",), ("and", 1, 4), ("or", 0, 1), ("or", 5, 3),
                 ("not", 6), ("xor", 7, 4), ("and", 8, 0), ("and", 3, 9), ("and", 10, 11)]
        self.assert_words(gates, [12], ["or", "not", "and"])
        # unlike gates whose ands are the same only now make a xor zero
        gates = [("in",), ("in",), ("and", 0, 1), ("zero",), ("or", 1, 3), ("and", 4, 0), ("xor", 2, 5), ("or", 6, 0)]
        self.assert_words(gates, [7], [])

    def test_gates_that_feed_nothing(self):
        gates = [("in",), ("in",), ("not", 0), ("and", 0, 2), ("keep", 0, 3), ("or", 0, 1), ("zero",), ("keep", 1, 7),
                 ("keep", 0, 9), ("keep", 1, 8)]
        self.assert_words(gates, [], [])
        self.assert_words(gates, [5], ["or"])
        self.assert_words(gates, [4], ["keep", "zero"])
        self.assert_words(gates, [8], ["keep", "keep"])
        self.assertEqual(self.small_of(gates, []).gates, (("in",), ("in",)))

    def test_keep_gates(self):
        self.assert_words([("keep", 1, 0)], [0], ["keep"])
        self.assert_words([("zero",), ("keep", 1, 0)], [1], ["zero", "keep"])
        self.assert_words([("keep", 0, 1), ("one",)], [0], ["keep", "one"])
        self.assert_words([("keep", 0, 1), ("not", 0), ("not", 1)], [0, 2], ["keep", "not"])
        gates = [("keep", 0, 3), ("keep", 1, 4), ("zero",), ("or", 0, 2), ("and", 1, 0), ("xor", 3, 4)]
        self.assert_words(gates, [5], ["keep", "keep", "and", "xor"])

    def test_in_gates_stay(self):
        small = self.small_of([("in",), ("zero",), ("in",), ("and", 1, 2), ("in",)], [3, 4])
        self.assertEqual(len(ins_of(small)), 3)

    def test_empty_net(self):
        small, paper = made_small(Net([], []))
        self.assertEqual((small.gates, small.outs, paper), ((), (), ([], [])))


class ManyTest(SmallCase):
    def test_nets_of_every_make(self):
        for seed in range(150):
            with self.subTest(seed=seed):
                self.assert_small(random_net(seed, 5 + seed % 60))
        for seed in range(5):
            self.assert_small(random_net(seed, 400, 20))

    def test_small_nets_may_be_handed_in_again(self):
        for seed in range(30):
            self.assert_small(made_small(random_net(seed, 60))[0])

    def test_raised_nets(self):
        for seed in range(60):
            maker = TextMaker(seed, 16 if seed % 4 == 0 else 4)
            self.assert_small(raised(read_modules(maker.text())), 6)

    def test_long_chains(self):
        gates = [("in",)]
        for number in range(3000):
            gates.append(("and", 0, number) if number % 2 else ("not", number))
        gates[1500] = ("xor", 1400, 1400)
        self.assert_small(Net(gates, [3000]), 2)

    def test_what_is_told_may_be_changed(self):
        net = random_net(3, 40)
        small, paper = made_small(net)
        kept = (small.gates, small.outs, [list(side) for side in paper])
        paper[0].clear()
        paper[1].clear()
        small, paper = made_small(net)
        self.assertEqual((small.gates, small.outs, [list(side) for side in paper]), kept)


if __name__ == "__main__":
    unittest.main()
