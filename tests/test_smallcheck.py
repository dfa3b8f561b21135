"""Papers of shrinking, just kept and just broken."""

import itertools
import unittest

from bitfloor.nets import Net
from bitfloor.smallcheck import small_holds

WHYS = ("in", "keep", "same", "turned", "inner", "first", "second", "third", "zero", "one", "not", "", None, 0, True)

BASE = (
    ("in",), ("in",), ("zero",), ("one",), ("not", 0), ("not", 4), ("not", 1), ("zero",), ("one",),
    ("and", 0, 1), ("or", 0, 1), ("xor", 0, 1),
)

PICK_BASE = (("in",), ("in",), ("zero",), ("one",), ("not", 0), ("pick", 0, 1, 4), ("pick", 0, 4, 1))


def base_pairs(base):
    return [(number, "in" if gate[0] == "in" else "same") for number, gate in enumerate(base)]


def holds(base, gate, pair):
    """Whether the pair is taken for the gate, all gates ahead of it standing for themselves."""
    return small_holds(Net(base + (gate,), []), Net(base, []), ([], base_pairs(base) + [pair]))


class Rules:
    """The rows of the document, said of gates' numbers."""

    def __init__(self, gates):
        self.gates = gates

    def zero(self, number):
        return self.gates[number][0] == "zero"

    def one(self, number):
        return self.gates[number][0] == "one"

    def nots(self, a, b):
        return ("not", b) == self.gates[a] or ("not", a) == self.gates[b]

    def kept(self, word, why, n, x, y=None, z=None):
        given = {
            ("not", "same"): lambda: self.gates[n] == ("not", x),
            ("not", "inner"): lambda: self.gates[x] == ("not", n),
            ("not", "one"): lambda: self.zero(x) and self.one(n),
            ("not", "zero"): lambda: self.one(x) and self.zero(n),
            ("and", "same"): lambda: self.gates[n] == ("and", x, y),
            ("and", "turned"): lambda: self.gates[n] == ("and", y, x),
            ("and", "first"): lambda: n == x and (self.one(y) or x == y),
            ("and", "second"): lambda: n == y and self.one(x),
            ("and", "zero"): lambda: self.zero(n) and (self.zero(x) or self.zero(y) or self.nots(x, y)),
            ("or", "same"): lambda: self.gates[n] == ("or", x, y),
            ("or", "turned"): lambda: self.gates[n] == ("or", y, x),
            ("or", "first"): lambda: n == x and (self.zero(y) or x == y),
            ("or", "second"): lambda: n == y and self.zero(x),
            ("or", "one"): lambda: self.one(n) and (self.one(x) or self.one(y) or self.nots(x, y)),
            ("xor", "same"): lambda: self.gates[n] == ("xor", x, y),
            ("xor", "turned"): lambda: self.gates[n] == ("xor", y, x),
            ("xor", "first"): lambda: n == x and self.zero(y),
            ("xor", "second"): lambda: n == y and self.zero(x),
            ("xor", "zero"): lambda: self.zero(n) and x == y,
            ("xor", "one"): lambda: self.one(n) and self.nots(x, y),
            ("xor", "not"): lambda: self.nots(n, x) and self.one(y) or self.nots(n, y) and self.one(x),
            ("pick", "same"): lambda: self.gates[n] == ("pick", x, y, z),
            ("pick", "second"): lambda: n == y and (self.one(x) or y == z),
            ("pick", "third"): lambda: n == z and self.zero(x),
            ("pick", "first"): lambda: n == x and self.one(y) and self.zero(z),
            ("pick", "not"): lambda: self.nots(n, x) and self.zero(y) and self.one(z),
        }
        return (word, why) in given and bool(given[(word, why)]())


class RowsTest(unittest.TestCase):
    """Every gate with every feeds, every number and every why."""

    def assert_rows(self, base, word, count):
        rules = Rules(base)
        taken = {}
        for feeds in itertools.product(range(len(base)), repeat=count):
            for number in range(len(base)):
                for why in WHYS:
                    told = holds(base, (word,) + feeds, (number, why))
                    self.assertIs(told, rules.kept(word, why, number, *feeds), (word, feeds, number, why))
                    if told:
                        taken[why] = True
        return sorted(taken)

    def test_not(self):
        self.assertEqual(self.assert_rows(BASE, "not", 1), ["inner", "one", "same", "zero"])

    def test_and(self):
        self.assertEqual(self.assert_rows(BASE, "and", 2), ["first", "same", "second", "turned", "zero"])

    def test_or(self):
        self.assertEqual(self.assert_rows(BASE, "or", 2), ["first", "one", "same", "second", "turned"])

    def test_xor(self):
        self.assertEqual(
            self.assert_rows(BASE, "xor", 2), ["first", "not", "one", "same", "second", "turned", "zero"])

    def test_pick(self):
        self.assertEqual(self.assert_rows(PICK_BASE, "pick", 3), ["first", "not", "same", "second", "third"])

    def test_zero_and_one(self):
        for word in ("zero", "one"):
            for number in range(len(BASE)):
                for why in WHYS:
                    kept = why == "same" and BASE[number] == (word,)
                    self.assertIs(holds(BASE, (word,), (number, why)), kept, (word, number, why))

    def test_keep(self):
        small = Net((("in",), ("keep", 0, 0), ("keep", 1, 0), ("keep", 0, 4), ("not", 0)), [])
        pairs = [(0, "in"), (4, "same")]
        for first, feed, x in ((0, 0, 0), (1, 0, 0), (0, 1, 4), (1, 1, 4)):
            net = Net((("in",), ("not", 0), ("keep", first, feed)), [])
            for number in range(5):
                for why in WHYS:
                    kept = why == "keep" and small.gates[number] == ("keep", first, x)
                    self.assertIs(small_holds(net, small, ([], pairs + [(number, why)])), kept, (first, number, why))

    def test_keep_gates_fed_by_later_ones_and_by_themselves(self):
        net = Net((("keep", 0, 1), ("not", 0), ("keep", 1, 2)), [0, 2])
        small = Net((("keep", 1, 0), ("keep", 0, 2), ("not", 1)), [1, 0])
        self.assertIs(small_holds(net, small, ([], [(1, "keep"), (2, "same"), (0, "keep")])), True)
        self.assertIs(small_holds(net, net, ([], [(0, "keep"), (1, "same"), (2, "keep")])), True)
        other = Net((("keep", 0, 1), ("not", 0), ("keep", 1, 0)), [0, 2])
        self.assertIs(small_holds(net, other, ([], [(0, "keep"), (1, "same"), (2, "keep")])), False)
        # two keep gates may stand for one
        twice = Net((("in",), ("keep", 1, 0), ("keep", 1, 0)), [1, 2])
        once = Net((("in",), ("keep", 1, 0)), [1, 1])
        self.assertIs(small_holds(twice, once, ([], [(0, "in"), (1, "keep"), (1, "keep")])), True)


class FacesTest(unittest.TestCase):
    def test_in_gates(self):
        net = Net((("in",), ("zero",), ("in",)), [])
        small = Net((("zero",), ("in",), ("in",)), [])
        good = [(1, "in"), (0, "same"), (2, "in")]
        self.assertIs(small_holds(net, small, ([], good)), True)
        for bad in ((2, "in"), (0, "in"), (1, "same"), (1, ""), (1, None), None, (1, "keep"), (1, "first")):
            self.assertIs(small_holds(net, small, ([], [bad] + good[1:])), False, bad)
        for bad in ((1, "in"), (0, "in"), (2, "same"), None):
            self.assertIs(small_holds(net, small, ([], good[:2] + [bad])), False, bad)
        self.assertIs(small_holds(net, small, ([], [(2, "in"), (0, "same"), (1, "in")])), False)

    def test_as_many_in_gates(self):
        one = Net((("in",),), [])
        two = Net((("in",), ("in",)), [])
        self.assertIs(small_holds(one, two, ([], [(0, "in")])), False)
        self.assertIs(small_holds(two, one, ([], [(0, "in"), (0, "in")])), False)
        self.assertIs(small_holds(two, one, ([], [(0, "in"), None])), False)
        self.assertIs(small_holds(two, two, ([], [(0, "in"), (1, "in")])), True)

    def test_outs(self):
        gates = (("in",), ("not", 0), ("in",))
        pairs = [(0, "in"), (1, "same"), (2, "in")]
        self.assertIs(small_holds(Net(gates, [1, 0, 1]), Net(gates, [1, 0, 1]), ([], pairs)), True)
        for outs in ([0], [1, 1], [], [1, 0, 1], [0, 1], [1, 2]):
            self.assertIs(small_holds(Net(gates, [1, 0]), Net(gates, outs), ([], pairs)), False, outs)
        self.assertIs(small_holds(Net(gates, [1, 0, 1]), Net(gates, [1, 0]), ([], pairs)), False)
        # a like gate with another number is not the out's
        small = Net(gates + (("not", 0),), [3])
        self.assertIs(small_holds(Net(gates, [1]), small, ([], pairs)), False)
        self.assertIs(small_holds(Net(gates, [1]), small, ([], [(0, "in"), (3, "same"), (2, "in")])), True)

    def test_outs_have_pairs_other_gates_need_none(self):
        gates = (("in",), ("not", 0), ("keep", 0, 1), ("zero",), ("and", 0, 1))
        small = Net((("in",),), [])
        self.assertIs(small_holds(Net(gates, []), small, ([], [(0, "in"), None, None, None, None])), True)
        for out in range(1, 5):
            net = Net(gates, [0, out])
            small = Net((("in",),), [0, 0])
            self.assertIs(small_holds(net, small, ([], [(0, "in"), None, None, None, None])), False)

    def test_feeds_have_pairs(self):
        gates = (("in",), ("not", 0), ("zero",), ("and", 1, 2), ("keep", 0, 1), ("pick", 2, 1, 0))
        small = Net((("in",), ("zero",), ("not", 0), ("keep", 0, 2)), [])
        good = [(0, "in"), (2, "same"), (1, "same"), (1, "zero"), (3, "keep"), (0, "third")]
        self.assertIs(small_holds(Net(gates, []), small, ([], good)), True)
        for keep in ((3,), (4,), (5,), (3, 4, 5)):
            pairs = [pair if number in (0, 2) + keep else None for number, pair in enumerate(good)]
            self.assertIs(small_holds(Net(gates, []), small, ([], pairs)), False, keep)
            pairs[1] = good[1]
            self.assertIs(small_holds(Net(gates, []), small, ([], pairs)), True, keep)

    def test_empty_nets(self):
        self.assertIs(small_holds(Net([], []), Net([], []), ([], [])), True)
        self.assertIs(small_holds(Net([], []), Net([("zero",)], []), ((), ())), True)


class LostTest(unittest.TestCase):
    # the net tells zero by way of a not that the small net lost
    net = Net((("in",), ("not", 0), ("and", 0, 1)), [2])
    small = Net((("in",), ("zero",)), [1])
    pairs = [(0, "in"), (2, "same"), (1, "zero")]

    def test_a_lost_gate_stands_for_one(self):
        self.assertIs(small_holds(self.net, self.small, ([("not", 0)], self.pairs)), True)
        self.assertIs(small_holds(self.net, self.small, ([], self.pairs)), False)
        self.assertIs(small_holds(self.net, self.small, ([("zero",), ("not", 0)], self.pairs)), False)
        moved = [(0, "in"), (3, "same"), (1, "zero")]
        self.assertIs(small_holds(self.net, self.small, ([("zero",), ("not", 0)], moved)), True)
        self.assertIs(small_holds(self.net, self.small, ([("not", 1)], self.pairs)), False)

    def test_lost_gates_of_every_word(self):
        lost = [("not", 0), ("zero",), ("one",), ("and", 2, 0), ("or", 5, 4), ("xor", 6, 6), ("pick", 0, 1, 7),
                ("keep", 0, 10), ("keep", 1, 9), ("keep", 1, 0)]
        self.assertIs(small_holds(self.net, self.small, (lost, self.pairs)), True)
        self.assertIs(small_holds(self.net, self.small, (tuple(lost), tuple(self.pairs))), True)
        self.assertIs(small_holds(self.net, self.small, ([list(gate) for gate in lost], self.pairs)), True)

    def test_lost_gates_that_are_none(self):
        things = [
            ("in",), ("not", 3), ("not", 4), ("not", -1), ("and", 0, 3), ("and", 3, 0), ("keep", 0, 4), ("keep", 2, 0),
            ("keep", 0), ("keep", True, 0), ("keep", 0, True), ("not", True), ("not", False), ("not", None),
            ("not", "0"), ("not", [0]), ("not",), ("not", 0, 0), ("zero", 0), ("nor", 0, 0), (), [], None, True, 0, "",
            "zero", "not", (None,), (0,), (True,), (["zero"],), [["zero"]], ("pick", 0, 0), ("pick", 0, 0, 3),
            ("pick", 0, 0, 0, 0),
        ]
        for thing in things:
            lost = [("not", 0), thing]
            self.assertIs(small_holds(self.net, self.small, (lost, self.pairs)), False, thing)
        self.assertIs(small_holds(self.net, self.small, ([("not", 0), ("keep", 0, 3)], self.pairs)), True)
        self.assertIs(small_holds(self.net, self.small, ([("not", 0), ("not", 2)], self.pairs)), True)

    def test_an_out_is_a_gate_of_the_small_net(self):
        net = Net((("in",), ("not", 0)), [1])
        self.assertIs(small_holds(net, Net((("in",),), [0]), ([("not", 0)], [(0, "in"), (1, "same")])), False)


class FormTest(unittest.TestCase):
    net = Net((("in",), ("not", 0), ("not", 1), ("keep", 1, 2)), [2, 3])
    small = Net((("in",), ("keep", 1, 0)), [0, 1])
    lost = [("not", 0)]
    pairs = [(0, "in"), (2, "same"), (0, "inner"), (1, "keep")]

    def tell(self, paper):
        return small_holds(self.net, self.small, paper)

    def test_lists_and_tuples_are_alike(self):
        for outer, inner, pair in itertools.product((list, tuple), repeat=3):
            paper = outer((inner(pair(gate) for gate in self.lost), inner(pair(thing) for thing in self.pairs)))
            self.assertIs(self.tell(paper), True)

    def test_other_papers(self):
        own = []
        own.append(own)
        junk = (None, True, False, 0, 1, "", "ab", "in", [], (), [[]], [[], []], ((), ()), [None, None], [0, 0], own,
                (self.lost,), (self.lost, self.pairs, []), (self.pairs, self.lost), [self.lost, None],
                [None, self.pairs], ["", self.pairs], [0, self.pairs], [True, self.pairs], [self.lost, ""],
                [self.lost, "abcd"], [self.lost, 4], [self.lost, True], (own, own), (self.lost, own))
        for paper in junk:
            self.assertIs(self.tell(paper), False)

    def test_as_many_things_as_gates(self):
        self.assertIs(self.tell((self.lost, self.pairs)), True)
        self.assertIs(self.tell((self.lost, self.pairs[:3])), False)
        self.assertIs(self.tell((self.lost, self.pairs + [None])), False)
        self.assertIs(self.tell((self.lost, self.pairs + [(0, "in")])), False)
        self.assertIs(self.tell((self.lost, [])), False)

    def test_other_pairs(self):
        own = []
        own.append(own)
        for place in range(4):
            number, why = self.pairs[place]
            bads = [
                (number,), (number, why, why), (why, number), (None, why), (str(number), why), ([number], why),
                (bool(number), why) if number < 2 else (3, why), (-1, why), (3, why), (4, why), (10 ** 30, why),
                (number - 3, why), (number, None), (number, 0), (number, True), (number, [why]), (number, (why,)),
                (number, why + " "), (number, why.upper()), (number, ""), (), [], [[]], own, True, False, 0, 1, "",
                "in", "0i", number, why, ((number, why),), [number], [why],
            ]
            for bad in bads:
                pairs = self.pairs[:place] + [bad] + self.pairs[place + 1:]
                self.assertIs(self.tell((self.lost, pairs)), False, (place, bad))

    def test_none_is_no_pair_where_one_is_wanted(self):
        for place in range(4):
            pairs = self.pairs[:place] + [None] + self.pairs[place + 1:]
            self.assertIs(self.tell((self.lost, pairs)), False, place)

    def test_nothing_is_changed(self):
        lost = [list(gate) for gate in self.lost]
        pairs = [list(pair) for pair in self.pairs]
        self.tell((lost, pairs))
        self.assertEqual((lost, pairs), ([["not", 0]], [[0, "in"], [2, "same"], [0, "inner"], [1, "keep"]]))


if __name__ == "__main__":
    unittest.main()
