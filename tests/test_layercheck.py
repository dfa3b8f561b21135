"""Papers of layers, taken and not."""

import copy
import random
import unittest

from bitfloor.layercheck import layers_hold
from bitfloor.layers import layers_of
from bitfloor.nets import Net
from samples import STRANGE, exchanged, plainly_shut, wide_net, with_kind

# gates 0 to 11 are ins, 12 to 17 ands of two each, 18 to 22 bring these together one by one
ANDS = [("in",)] * 12 + [("and", number, number + 1) for number in range(0, 12, 2)]
ROW = [("and", 12, 13), ("or", 18, 14), ("xor", 19, 15), ("and", 20, 16), ("or", 21, 17)]
# 23 holds what 21 had; 24 to 28 are beside the row, 27 and 28 lead to nothing above them
BESIDE = [("keep", 0, 21), ("zero",), ("or", 24, 0), ("not", 23), ("xor", 19, 23), ("and", 21, 17)]
NET = Net(ANDS + ROW + BESIDE, [22])
LAYERS = [0] * 12 + [1] * 6 + [1, 2, 2, 2, 3] + [0, 1, 1, 1, 2, 3]
FIVE_INS = [[0, 12], [1, 12], [2, 13], [3, 13], [4, 14]]
FIVE_ANDS = [[0, 12, 18, 19], [4, 14, 19], [6, 15, 20], [8, 16, 21], [10, 17, 22]]
PAPER = (
    [None] * 12
    + [([number, number + 1], []) for number in range(0, 12, 2)]
    + [([0, 1, 2, 3], []), ([18, 14], FIVE_INS), ([18, 14, 15], FIVE_INS), ([18, 14, 15, 16], FIVE_INS)]
    + [([21, 17], FIVE_ANDS)]
    + [None, ([], []), ([0], []), ([23], []), ([18, 14, 23], FIVE_INS), ([17, 21], FIVE_ANDS[:4] + [[10, 17, 28]])]
)


def holds(number=None, gates=None, paths=None, layer=None):
    """What the checker tells when a gate has other gates, paths or another layer."""
    layers = list(LAYERS)
    paper = copy.deepcopy(PAPER)
    if number is not None:
        reason = paper[number] or (None, None)
        paper[number] = (reason[0] if gates is None else gates, reason[1] if paths is None else paths)
        layers[number] = layers[number] if layer is None else layer
    return layers_hold(NET, layers, paper)


def ands_with(place, path):
    """The five paths of gate 22 with another one at a place."""
    return FIVE_ANDS[:place] + [path] + FIVE_ANDS[place + 1:]


class TakenTest(unittest.TestCase):
    def test_the_paper_as_it_is(self):
        self.assertIs(holds(), True)
        self.assertEqual(layers_of(NET)[0], LAYERS)
        for kind in (list, tuple):
            self.assertIs(layers_hold(NET, kind(LAYERS), with_kind(PAPER, kind)), True)

    def test_no_gates(self):
        for nothing in ([], ()):
            self.assertIs(layers_hold(Net([], []), nothing, nothing), True)
            self.assertIs(layers_hold(NET, nothing, nothing), False)
        self.assertIs(layers_hold(Net([], []), [0], [None]), False)

    def test_nothing_is_changed(self):
        layers = list(LAYERS)
        paper = copy.deepcopy(PAPER)
        layers_hold(NET, layers, paper)
        self.assertEqual((layers, paper), (LAYERS, PAPER))


class LayerTest(unittest.TestCase):
    def test_a_layer_one_more_or_one_less(self):
        for number in range(len(LAYERS)):
            for layer in (LAYERS[number] - 1, LAYERS[number] + 1, -1, 10 ** 30, -10 ** 30):
                self.assertIs(holds(number, layer=layer), False, (number, layer))

    def test_a_source_has_layer_0_and_none(self):
        for number in (0, 11, 23):
            for reason in (([], []), ([0], []), [], 0, False, "", ()):
                paper = copy.deepcopy(PAPER)
                paper[number] = reason
                self.assertIs(layers_hold(NET, LAYERS, paper), False)

    def test_no_none_where_a_pair_is_due(self):
        for number, reason in enumerate(PAPER):
            if reason is not None:
                for strange in (None, [], (), reason[:1], reason + (None,), (reason,), reason[0]):
                    paper = copy.deepcopy(PAPER)
                    paper[number] = strange
                    self.assertIs(layers_hold(NET, LAYERS, paper), False, (number, strange))

    def test_layer_1_has_no_paths(self):
        for paths in (FIVE_INS, [[]], [[0]], [[0, 12]], None, 0, "", False):
            self.assertIs(holds(12, paths=paths), paths is None)
            self.assertIs(holds(24, paths=paths), paths is None)

    def test_layers_that_are_not_the_least(self):
        # gate 25 is shut off by gate 0 alone, and gate 26 by gate 23; 19 would stand one layer beneath a third
        self.assertIs(holds(25, gates=[0, 12], paths=FIVE_INS, layer=2), False)
        self.assertIs(holds(25, gates=[0, 12], paths=[[0, 25]] * 5, layer=2), False)
        self.assertIs(holds(25, gates=[0, 12], paths=[], layer=2), False)
        self.assertIs(holds(26, gates=[23, 19], paths=FIVE_INS, layer=3), False)

    def test_layers_that_are_too_small(self):
        self.assertIs(holds(19, gates=[0, 1, 2, 3, 4, 5], paths=[], layer=1), False)
        self.assertIs(holds(24, gates=[], paths=[], layer=0), False)
        self.assertIs(holds(22, gates=[18, 14, 15, 16, 17], paths=FIVE_INS, layer=2), False)


class SetTest(unittest.TestCase):
    def test_other_sets_that_shut_off(self):
        self.assertIs(holds(18, gates=[3, 1, 2, 0]), True)
        self.assertIs(holds(19, gates=[12, 13, 14]), True)
        self.assertIs(holds(19, gates=[12, 13, 4, 5]), True)
        self.assertIs(holds(19, gates=[0, 1, 13, 14]), True)

    def test_a_gate_twice_or_one_that_does_not_lead_to_it(self):
        self.assertIs(holds(19, gates=[18, 14, 14, 18]), True)
        self.assertIs(holds(19, gates=[18, 14, 17, 0]), True)
        self.assertIs(holds(19, gates=[18, 14, 26, 23]), True)
        self.assertIs(holds(12, gates=[0, 1, 11, 23]), True)
        self.assertIs(holds(24, gates=[0, 23]), True)

    def test_a_set_of_five(self):
        self.assertIs(holds(19, gates=[18, 14, 15, 16, 17]), False)
        self.assertIs(holds(19, gates=[18, 14, 14, 18, 18]), False)
        self.assertIs(holds(12, gates=[0, 1, 2, 3, 4]), False)
        self.assertIs(holds(24, gates=[0, 0, 0, 0, 0]), False)
        self.assertIs(holds(24, gates=[0, 0, 0, 0]), True)

    def test_strange_numbers(self):
        for strange in (-1, len(LAYERS), 10 ** 30, True, False, None, "0", "", [0], (0,), []):
            self.assertIs(holds(12, gates=[0, 1, strange]), False, strange)
            self.assertIs(holds(12, gates=[strange, 0, 1]), False, strange)
        self.assertIs(holds(12, gates=[0, True]), False)
        self.assertIs(holds(12, gates=[False, 1]), False)
        for strange in (0, -1, True, False, "", "01", (), []):
            self.assertIs(holds(12, gates=strange), False, strange)
        paper = copy.deepcopy(PAPER)
        paper[12] = (None, [])
        self.assertIs(layers_hold(NET, LAYERS, paper), False)

    def test_with_the_gate_itself(self):
        self.assertIs(holds(12, gates=[12]), False)
        self.assertIs(holds(12, gates=[0, 1, 12]), False)
        self.assertIs(holds(22, gates=[21, 17, 22]), False)
        # the gate itself one layer beneath itself can not be, but for the greatest of the others
        self.assertIs(holds(24, gates=[24]), False)

    def test_that_does_not_shut_off(self):
        self.assertIs(holds(12, gates=[0]), False)
        self.assertIs(holds(12, gates=[]), False)
        self.assertIs(holds(18, gates=[0, 1, 2]), False)
        self.assertIs(holds(18, gates=[0, 1, 2, 2]), False)
        self.assertIs(holds(19, gates=[18]), False)
        self.assertIs(holds(26, gates=[21]), False)
        self.assertIs(holds(26, gates=[0]), False)
        self.assertIs(holds(27, gates=[19]), False)

    def test_whose_greatest_layer_is_another(self):
        self.assertIs(holds(22, gates=[18, 14, 15, 16]), False)
        self.assertIs(holds(22, gates=[21, 17, 28]), False)
        self.assertIs(holds(21, gates=[20, 16]), False)
        self.assertIs(holds(18, gates=[12, 13]), False)
        self.assertIs(holds(12, gates=[0, 1, 24]), False)
        self.assertIs(holds(19, gates=[18, 14, 20]), False)
        self.assertIs(holds(24, gates=[25]), False)


class PathsTest(unittest.TestCase):
    def assert_path(self, place, path, taken):
        self.assertIs(holds(22, paths=ands_with(place, path)), taken, path)

    def test_other_paths(self):
        self.assertIs(holds(22, paths=list(reversed(FIVE_ANDS))), True)
        self.assert_path(0, [1, 12, 18, 19], True)
        self.assert_path(0, [3, 13, 18, 19], True)
        self.assert_path(4, [11, 17, 22], True)

    def test_last_gates_may_be_shared(self):
        self.assertIs(holds(19, paths=[[5, 14], [4, 14], [2, 13], [3, 13], [1, 12]]), True)
        self.assertIs(holds(19, paths=[[5, 14], [4, 14], [2, 13], [3, 13], [5, 14]]), False)

    def test_too_few_or_too_many(self):
        self.assertIs(holds(22, paths=FIVE_ANDS[:4]), False)
        self.assertIs(holds(22, paths=FIVE_ANDS[1:]), False)
        self.assertIs(holds(22, paths=[]), False)
        self.assertIs(holds(19, paths=FIVE_INS + [[5, 14]]), False)
        self.assertIs(holds(19, paths=FIVE_INS[:4]), False)
        self.assertIs(holds(19, paths=[]), False)

    def test_begun_at_no_source(self):
        self.assert_path(0, [12, 18, 19], False)
        self.assert_path(0, [18, 19], False)
        self.assert_path(1, [14, 19], False)
        self.assert_path(1, [24, 19], False)
        self.assert_path(0, [19], False)
        self.assert_path(4, [22], False)
        self.assertIs(holds(19, paths=FIVE_INS[:4] + [[14]]), False)
        self.assertIs(holds(19, paths=FIVE_INS[:4] + [[19]]), False)

    def test_that_leap(self):
        self.assert_path(0, [0, 18, 19], False)
        self.assert_path(0, [0, 12, 19], False)
        self.assert_path(0, [2, 12, 18, 19], False)
        self.assert_path(1, [4, 19], False)
        self.assert_path(4, [10, 22], False)
        self.assert_path(4, [10, 17, 21], False)

    def test_through_a_keep_gate(self):
        self.assertIs(holds(27, paths=FIVE_INS[:4] + [[23, 27]]), True)
        self.assertIs(holds(27, paths=FIVE_INS[:4] + [[4, 23, 27]]), False)
        net = Net([("in",)] * 6 + [("keep", 0, 5), ("and", 0, 1), ("or", 7, 2), ("or", 8, 3), ("or", 9, 6)], [])
        layers, paper = layers_of(net)
        self.assertEqual(layers, [0] * 7 + [1, 1, 1, 2])
        paths = [[0, 7], [1, 7], [2, 8], [3, 9], [6, 10]]
        for path, taken in (([6, 10], True), ([5, 6, 10], False), ([5, 10], False), ([5, 6], False), ([6], False)):
            paper[10] = ([9, 6], paths[:4] + [path])
            self.assertIs(layers_hold(net, layers, paper), taken, path)

    def test_ended_elsewhere(self):
        # gate 28 is high enough, but leads to nothing; 27 is led to 22 through nothing either; 21 leads to 26 by a keep
        self.assert_path(4, [10, 17, 28], False)
        self.assertIs(holds(28, paths=FIVE_ANDS), False)
        self.assertIs(holds(28, paths=FIVE_ANDS[:4] + [[11, 17, 28]]), True)
        self.assert_path(0, [23, 27], False)
        self.assertIs(holds(20, paths=FIVE_INS[:4] + [[8, 16]]), False)
        self.assertIs(holds(21, paths=FIVE_INS[:4] + [[8, 16]]), True)
        self.assertIs(holds(20, paths=FIVE_INS[:4] + [[23, 26]]), False)

    def test_led_on_by_a_keep_gate_alone(self):
        # gate 11 is of layer 2 and feeds keep gate 12, which feeds 13
        gates = [("in",)] * 6 + [("and", 0, 1), ("and", 2, 3), ("and", 6, 7), ("or", 8, 4), ("in",), ("or", 9, 5),
                                 ("keep", 0, 11), ("xor", 12, 9)]
        net = Net(gates, [])
        layers, paper = layers_of(net)
        self.assertEqual(layers, [0] * 6 + [1, 1, 1, 2, 0, 2, 0, 2])
        paths = [[0, 6], [1, 6], [2, 7], [3, 7]]
        for path, taken in (([4, 9], True), ([12, 13], True), ([5, 11], False)):
            paper[13] = ([8, 4, 12], paths + [path])
            self.assertIs(layers_hold(net, layers, paper), taken, path)

    def test_ended_too_low(self):
        self.assert_path(0, [0, 12, 18], False)
        self.assert_path(0, [0, 12], False)
        self.assert_path(0, [0], False)
        self.assert_path(4, [10, 17], False)
        self.assertIs(holds(19, paths=FIVE_INS[:4] + [[4]]), False)

    def test_a_gate_too_high_is_passed(self):
        self.assert_path(0, [0, 12, 18, 19, 20], False)
        self.assert_path(1, [4, 14, 19, 20, 21], False)
        self.assert_path(3, [8, 16, 21, 22], False)
        self.assertIs(holds(19, paths=FIVE_INS[:4] + [[4, 14, 19]]), False)
        self.assertIs(holds(19, paths=[[0, 12, 18]] + FIVE_INS[1:]), False)

    def test_a_gate_that_is_not_a_last_one_is_shared(self):
        self.assert_path(1, [0, 12, 18, 19], False)
        self.assert_path(1, [1, 12, 18, 19], False)
        self.assert_path(1, [2, 13, 18, 19], False)
        self.assert_path(4, [4, 14, 19], False)
        self.assertIs(holds(19, paths=FIVE_INS[:4] + [[3, 13]]), False)

    def test_strange_paths(self):
        for strange in (None, True, False, 0, 19, -1, "", "0", [], (), [[]], [None], [True], [-1], [29, 19], [0, True],
                        ["0", 12, 18, 19], [0, 12, 18, "19"], [0, [12], 18, 19], [10 ** 30], [0, 12, 18, 10 ** 30]):
            for place in range(5):
                self.assert_path(place, strange, False)
        for strange in (True, False, 0, 5, "", "paths", "01234", [None] * 5, [[]] * 5, [0] * 5):
            self.assertIs(holds(22, paths=strange), False, strange)


class FormTest(unittest.TestCase):
    def test_strange_things_in_the_place_of_any_part(self):
        for strange in STRANGE + ([], (), {}, None, (None,)):
            for layers in exchanged(LAYERS, strange):
                self.assertIs(layers_hold(NET, layers, PAPER), False, (strange, layers))
        for strange in STRANGE:
            for paper in exchanged(PAPER, strange):
                self.assertIs(layers_hold(NET, LAYERS, paper), False, strange)

    def test_too_short_and_too_long(self):
        for layers, paper in ((LAYERS[:-1], PAPER), (LAYERS + [0], PAPER), (LAYERS, PAPER[:-1]),
                              (LAYERS, PAPER + [None]), (LAYERS + [0], PAPER + [None])):
            self.assertIs(layers_hold(NET, layers, paper), False)


def all_down(net, gate):
    """A gate and all that lead to it through gates that are no sources."""
    if net.gates[gate][0] in ("in", "keep"):
        return [gate]
    return [gate] + [number for feed in net.gates[gate][1:] for number in all_down(net, feed)]


def plainly_holds(net, layers, paper):
    """Point [16] word by word, for papers of the right kinds."""
    sources = [number for number, gate in enumerate(net.gates) if gate[0] in ("in", "keep")]
    for number, reason in enumerate(paper):
        layer = layers[number]
        if number in sources:
            if layer != 0 or reason is not None:
                return False
            continue
        if reason is None:
            return False
        gates, paths = reason
        if len(gates) > 4 or number in gates or not plainly_shut(net, gates, number):
            return False
        if layer - 1 != max([0] + [layers[gate] for gate in gates]):
            return False
        if len(paths) != (0 if layer == 1 else 5):
            return False
        for path in paths:
            if not path or path[0] not in sources or path[-1] not in all_down(net, number):
                return False
            if layers[path[-1]] < layer - 1 or any(layers[gate] >= layer - 1 for gate in path[:-1]):
                return False
            if any(later in sources or gate not in net.gates[later][1:] for gate, later in zip(path, path[1:])):
                return False
        for place, path in enumerate(paths):
            for other in paths[place + 1:]:
                if any(gate in other for gate in path[:-1]) or any(gate in path for gate in other[:-1]):
                    return False
    return True


class ManyPapersTest(unittest.TestCase):
    def changed(self, source, net, layers, paper):
        """The layers and the paper with one thing changed."""
        layers = list(layers)
        paper = copy.deepcopy(paper)
        total = len(net.gates)
        inner = [number for number in range(total) if paper[number] is not None]
        number = source.choice(inner)
        gates, paths = paper[number]
        kind = source.randrange(7)
        if kind == 0:
            layers[source.randrange(total)] += source.choice((-1, 1))
        elif kind == 1 and gates:
            gates[source.randrange(len(gates))] = source.randrange(total)
        elif kind == 2:
            gates.append(source.randrange(total))
        elif kind == 3 and gates:
            gates.pop(source.randrange(len(gates)))
        elif kind == 4 and paths:
            path = source.choice(paths)
            path[source.randrange(len(path))] = source.randrange(total)
        elif kind == 5 and paths:
            path = source.choice(paths)
            path.pop(source.choice((0, -1)))
        elif paths:
            paths[source.randrange(5)] = list(source.choice(source.choice([paper[k][1] or paths for k in inner])))
        return layers, paper

    def test_papers_with_changes_against_a_plain_look(self):
        source = random.Random(11)
        told = []
        for seed in range(40):
            net = wide_net(seed, 9, 12)
            layers, paper = layers_of(net)
            self.assertTrue(plainly_holds(net, layers, paper))
            for count in range(60):
                changed = self.changed(source, net, layers, paper)
                answer = layers_hold(net, changed[0], changed[1])
                self.assertIs(answer, plainly_holds(net, changed[0], changed[1]), (net.gates, changed))
                told.append(answer)
        self.assertGreater(told.count(True), 300)
        self.assertGreater(told.count(False), 300)


if __name__ == "__main__":
    unittest.main()
