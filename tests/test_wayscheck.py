"""The wires of ways, and ways that hold."""

import random
import unittest

from bitfloor.floors import Floor, wires_of
from bitfloor.packs import Pack
from bitfloor.signals import signals_of
from bitfloor.wayscheck import way_wires, ways_hold
from samples import (
    HAND_FLOOR, HAND_PACK, HAND_PLACES, HAND_WAYS, STRANGE, exchanged, led_cases, lists_in, plain_side,
    same_papers, with_kind,
)


def changed(ways, number, drives=None, joins=None, taps=None):
    """The ways with some parts of one exchanged."""
    way = ways[number]
    parts = [old if new is None else new for old, new in zip(way, (drives, joins, taps))]
    return ways[:number] + [tuple(parts)] + ways[number + 1:]


def plain_wires(way):
    """The wires of a way, found by going through all joins until nothing new comes."""
    wires = {tuple(wire) for wire in way[0]}
    while True:
        more = set(wires)
        for box, low, high, track in way[1]:
            pair = {plain_side(box, low, track), plain_side(box, high, track)}
            if pair & more:
                more |= pair
        if more == wires:
            return wires
        wires = more


def plain_hold(pack, floor, places, ways):
    """Whether ways of the right form hold, by the document's words."""
    pads = [[("h", row, -1, track) for track in range(8)] for row in range(floor.rows)]
    pads += [[("v", -1, column, track) for track in range(8)] for column in range(floor.columns)]
    pads += [[("h", row, floor.columns - 1, track) for track in range(8)] for row in range(floor.rows)]
    pads += [[("v", floor.rows - 1, column, track) for track in range(8)] for column in range(floor.columns)]

    def at(end):
        if end[0] == "block":
            return [plain_side(places[end[1]], side, track) for side in range(4) for track in range(8)]
        return pads[end[1] + (pack.ins if end[0] == "out" else 0)]

    signals = signals_of(pack)
    if len(ways) != len(signals):
        return False
    seen = []
    for (source, sinks), (drives, joins, taps) in zip(signals, ways):
        wires = plain_wires((drives, joins, taps))
        seen += list(wires)
        if len(taps) != len(sinks) or len(set(joins)) != len(joins):
            return False
        if not wires <= set(wires_of(floor)) or any(wire not in at(source) for wire in drives):
            return False
        for box, low, high, track in joins:
            if low >= high or not {plain_side(box, low, track), plain_side(box, high, track)} <= wires:
                return False
        if any(tap not in wires or tap not in at(sink) for tap, sink in zip(taps, sinks)):
            return False
    return len(seen) == len(set(seen))


class WayWiresTest(unittest.TestCase):
    def test_by_hand(self):
        told = way_wires(HAND_FLOOR, HAND_WAYS[0])
        self.assertEqual(told, [("h", 0, -1, 0), ("h", 0, 0, 0), ("v", -1, 0, 0), ("v", 0, 1, 0)])
        self.assertIsInstance(told, list)
        self.assertEqual(way_wires(HAND_FLOOR, HAND_WAYS[2]), [("h", 1, -1, 1), ("h", 1, 0, 1)])

    def test_joins_in_any_order(self):
        drives, joins, taps = HAND_WAYS[0]
        for order in ((0, 1, 2), (0, 2, 1), (1, 0, 2), (1, 2, 0), (2, 0, 1), (2, 1, 0)):
            way = (drives, [joins[number] for number in order], taps)
            self.assertEqual(way_wires(HAND_FLOOR, way), way_wires(HAND_FLOOR, HAND_WAYS[0]))

    def test_joins_that_lead_nowhere(self):
        self.assertEqual(way_wires(HAND_FLOOR, ([("h", 0, -1, 0)], [((1, 1), 0, 1, 0), ((0, 0), 0, 1, 1)], [])),
                         [("h", 0, -1, 0)])

    def test_joins_back_to_where_they_came_from(self):
        ring = [((0, 0), 1, 3, 0), ((0, 1), 0, 3, 0), ((1, 1), 0, 2, 0), ((1, 0), 1, 2, 0)]
        self.assertEqual(way_wires(HAND_FLOOR, ([("h", 0, 0, 0)], ring, [])),
                         [("h", 0, 0, 0), ("h", 1, 0, 0), ("v", 0, 0, 0), ("v", 0, 1, 0)])

    def test_drives(self):
        self.assertEqual(way_wires(HAND_FLOOR, ([], [((0, 0), 0, 1, 0)], [])), [])
        self.assertEqual(way_wires(HAND_FLOOR, ([("h", 0, 0, 1)] * 2, [], [])), [("h", 0, 0, 1)])
        self.assertEqual(way_wires(HAND_FLOOR, ([("v", 0, 0, 1), ("h", 0, 0, 1), ("h", 0, 0, 0), ("v", -1, 0, 0)], [], [])),
                         [("h", 0, 0, 0), ("h", 0, 0, 1), ("v", -1, 0, 0), ("v", 0, 0, 1)])

    def test_rising(self):
        floor = Floor(3, 10, 2)
        joins = [((1, column), 0, 1, 1) for column in range(10)]
        wires = [("h", 1, column, 1) for column in range(-1, 10)]
        self.assertEqual(way_wires(floor, ([("h", 1, 4, 1)], joins, [])), wires)

    def test_lists_and_tuples_are_alike(self):
        for way in HAND_WAYS:
            for kind in (list, tuple):
                self.assertEqual(way_wires(HAND_FLOOR, with_kind(way, kind)), way_wires(HAND_FLOOR, way))

    def test_many(self):
        for seed in range(100):
            source = random.Random(seed)
            floor = Floor(3, 3, 2)
            joins = []
            for count in range(source.randint(0, 14)):
                low, high = sorted(source.sample(range(4), 2))
                joins.append(((source.randrange(3), source.randrange(3)), low, high, source.randrange(2)))
            drives = [source.choice(wires_of(floor)) for count in range(source.randint(0, 3))]
            self.assertEqual(way_wires(floor, (drives, joins, [])), sorted(plain_wires((drives, joins, []))))

    def test_what_is_told_is_the_askers_own(self):
        way_wires(HAND_FLOOR, HAND_WAYS[0]).clear()
        self.assertEqual(len(way_wires(HAND_FLOOR, HAND_WAYS[0])), 4)


class WaysHoldTest(unittest.TestCase):
    def holds(self, ways, pack=HAND_PACK, floor=HAND_FLOOR, places=HAND_PLACES):
        answer = ways_hold(pack, floor, places, ways)
        self.assertIs(type(answer), bool)
        return answer

    def test_by_hand(self):
        self.assertTrue(self.holds(HAND_WAYS))
        for kind in (list, tuple):
            self.assertTrue(ways_hold(HAND_PACK, HAND_FLOOR, with_kind(HAND_PLACES, kind), with_kind(HAND_WAYS, kind)))

    def test_no_signals(self):
        pack = Pack(1, [([], 1, 0, 0)], [])
        self.assertTrue(self.holds([], pack, HAND_FLOOR, [(0, 1)]))
        self.assertTrue(self.holds((), pack, HAND_FLOOR, ((0, 1),)))
        self.assertFalse(self.holds([([], [], [])], pack, HAND_FLOOR, [(0, 1)]))

    def test_one_wire_alone(self):
        # a block beside another one, and one that hears itself
        pack = Pack(0, [([("block", 0)], 1, 1, 0), ([("block", 0)], 1, 0, 0)], [])
        for track in range(2):
            wire = ("h", 0, 0, track)
            self.assertTrue(self.holds([([wire], [], [wire, wire])], pack, HAND_FLOOR, [(0, 0), (0, 1)]))
        self.assertFalse(self.holds([([("h", 0, -1, 0)], [], [("h", 0, -1, 0)] * 2)], pack, HAND_FLOOR, [(0, 0), (0, 1)]))

    def test_two_tracks_and_two_drives_of_one_way(self):
        pack = Pack(0, [([("block", 0)], 1, 1, 0), ([("block", 0)], 1, 0, 0)], [])
        places = [(0, 0), (0, 1)]
        one = ("h", 0, 0, 0)
        other = ("h", 0, 0, 1)
        self.assertTrue(self.holds([([one, other], [], [one, other])], pack, HAND_FLOOR, places))
        self.assertTrue(self.holds([([one, other, one], [], [other, one])], pack, HAND_FLOOR, places))
        self.assertFalse(self.holds([([one], [], [one, other])], pack, HAND_FLOOR, places))
        # a drive that leads nowhere is a wire of the way all the same
        self.assertTrue(self.holds([([one, ("h", 0, -1, 1)], [], [one, one])], pack, HAND_FLOOR, places))

    def test_ways_along_one_track_each(self):
        pack = Pack(2, [], [("in", 1), ("in", 0)])
        floor = Floor(1, 1, 2)
        # pads 0 to 3 are left, above, right and below
        ways = [([("h", 0, -1, 0)], [((0, 0), 0, 3, 0)], [("v", 0, 0, 0)]),
                ([("v", -1, 0, 1)], [((0, 0), 1, 2, 1)], [("h", 0, 0, 1)])]
        self.assertTrue(self.holds(ways, pack, floor, []))
        # both on one track pass the box beside one another
        self.assertTrue(self.holds([ways[0], ([("v", -1, 0, 0)], [((0, 0), 1, 2, 0)], [("h", 0, 0, 0)])], pack, floor, []))

    def test_ways_too_few_too_many_or_in_another_order(self):
        self.assertFalse(self.holds(HAND_WAYS[:2]))
        self.assertFalse(self.holds(HAND_WAYS[1:]))
        self.assertFalse(self.holds([]))
        self.assertFalse(self.holds(HAND_WAYS + [([], [], [])]))
        self.assertFalse(self.holds(HAND_WAYS + [([("h", 0, 1, 1)], [], [])]))
        self.assertFalse(self.holds([HAND_WAYS[1], HAND_WAYS[0], HAND_WAYS[2]]))
        self.assertFalse(self.holds([HAND_WAYS[0], HAND_WAYS[2], HAND_WAYS[1]]))

    def test_taps(self):
        for number, way in enumerate(HAND_WAYS):
            taps = way[2]
            self.assertFalse(self.holds(changed(HAND_WAYS, number, taps=taps[:-1])))
            self.assertFalse(self.holds(changed(HAND_WAYS, number, taps=taps + taps[-1:])))
            self.assertFalse(self.holds(changed(HAND_WAYS, number, taps=[])))
        drives, joins, taps = HAND_WAYS[0]
        # another wire of the way at the sink's box will do
        for wire in (("h", 0, 0, 0), ("v", -1, 0, 0)):
            self.assertTrue(self.holds(changed(HAND_WAYS, 0, taps=[wire] + taps[1:])))
        # this one is a wire of the way, but not at the box
        self.assertFalse(self.holds(changed(HAND_WAYS, 0, taps=[("v", 0, 1, 0)] + taps[1:])))
        self.assertFalse(self.holds(changed(HAND_WAYS, 0, taps=[taps[0], ("h", 0, 0, 0), taps[2]])))
        # these are at the box, but not the way's
        self.assertFalse(self.holds(changed(HAND_WAYS, 0, taps=[("v", 0, 0, 1)] + taps[1:])))
        self.assertFalse(self.holds(changed(HAND_WAYS, 0, taps=[taps[0], ("h", 1, 1, 0), taps[2]])))
        # the out's pad, and a pad that is another's
        self.assertFalse(self.holds(changed(HAND_WAYS, 0, taps=taps[:2] + [("v", -1, 0, 1)])))
        self.assertFalse(self.holds(changed(HAND_WAYS, 0, taps=taps[:2] + [("h", 0, -1, 0)])))
        self.assertFalse(self.holds(changed(HAND_WAYS, 0, taps=[taps[1], taps[0], taps[2]])))

    def test_drives(self):
        drives = HAND_WAYS[0][0]
        self.assertTrue(self.holds(changed(HAND_WAYS, 0, drives=drives * 2)))
        self.assertTrue(self.holds(changed(HAND_WAYS, 0, drives=drives + [("h", 0, -1, 1)])))
        self.assertFalse(self.holds(changed(HAND_WAYS, 0, drives=[])))
        self.assertFalse(self.holds(changed(HAND_WAYS, 0, drives=[("h", 0, 0, 0)])))
        # a wire of the way at the box, but not of the pad
        self.assertFalse(self.holds(changed(HAND_WAYS, 0, drives=drives + [("h", 0, 0, 0)])))
        # block 0 may drive any wire at its box
        self.assertTrue(self.holds(changed(HAND_WAYS, 1, drives=[("v", 0, 0, 0), ("v", -1, 0, 1)])))
        self.assertFalse(self.holds(changed(HAND_WAYS, 1, drives=[("h", 1, 0, 0)])))
        self.assertFalse(self.holds(changed(HAND_WAYS, 1, drives=[("v", 0, 0, 0), ("h", 1, 0, 0)])))

    def test_wires_beyond_the_floor(self):
        for wire in (("h", 0, -2, 0), ("h", 0, 2, 0), ("h", -1, 0, 0), ("h", 2, 0, 0), ("v", -2, 0, 0), ("v", 2, 0, 0),
                     ("v", 0, 2, 0), ("v", 0, -1, 0), ("h", 0, -1, 2), ("h", 0, -1, -1), ("d", 0, 0, 0)):
            for number, way in enumerate(HAND_WAYS):
                self.assertFalse(self.holds(changed(HAND_WAYS, number, drives=way[0] + [wire])), wire)
                self.assertFalse(self.holds(changed(HAND_WAYS, number, taps=[wire] + way[2][1:])), wire)
        for join in (((2, 0), 0, 1, 0), ((-1, 0), 0, 1, 0), ((0, 2), 0, 1, 0), ((0, -1), 0, 1, 0), ((0, 0), 0, 1, 2),
                     ((0, 0), 0, 4, 0), ((0, 0), -1, 0, 0), ((0, 0), 0, 1, -1), ((0, -1), 1, 2, 0)):
            for number, way in enumerate(HAND_WAYS):
                self.assertFalse(self.holds(changed(HAND_WAYS, number, joins=way[1] + [join])), join)

    def test_joins(self):
        drives, joins, taps = HAND_WAYS[0]
        for number in range(3):
            self.assertFalse(self.holds(changed(HAND_WAYS, 0, joins=joins[:number] + joins[number + 1:])))
            self.assertFalse(self.holds(changed(HAND_WAYS, 0, joins=joins + joins[number:number + 1])))
            self.assertFalse(self.holds(changed(HAND_WAYS, 0, joins=joins + [with_kind(joins[number], list)])))
            box, low, high, track = joins[number]
            for sides in ((high, low), (low, low), (high, high)):
                broken = joins[:number] + [(box,) + sides + (track,)] + joins[number + 1:]
                self.assertFalse(self.holds(changed(HAND_WAYS, 0, joins=broken)))
            # one more that joins a wire of the way with itself
            self.assertFalse(self.holds(changed(HAND_WAYS, 0, joins=joins + [(box, low, low, track)])))
        # one more that leads on, one between wires that both are the way's, and one that leads nowhere
        self.assertTrue(self.holds(changed(HAND_WAYS, 0, joins=joins + [((0, 1), 0, 2, 0)])))
        self.assertTrue(self.holds(changed(HAND_WAYS, 0, joins=joins + [((0, 0), 1, 2, 0)])))
        self.assertFalse(self.holds(changed(HAND_WAYS, 0, joins=joins + [((0, 1), 0, 2, 1)])))
        self.assertFalse(self.holds(changed(HAND_WAYS, 0, joins=joins + [((1, 1), 1, 3, 0)])))
        self.assertTrue(self.holds(changed(HAND_WAYS, 0, joins=list(reversed(joins)))))

    def test_a_wire_of_two_ways(self):
        # block 1 drives the wire by which block 0 comes to it
        way = HAND_WAYS[2]
        self.assertFalse(self.holds(changed(HAND_WAYS, 2, drives=way[0] + [("h", 1, 0, 0)])))
        # a join leads on to a wire of another way
        self.assertFalse(self.holds(changed(HAND_WAYS, 1, joins=[((1, 0), 1, 2, 0), ((1, 1), 0, 2, 0)])))
        self.assertTrue(self.holds(changed(HAND_WAYS, 1, joins=[((1, 0), 1, 2, 0), ((1, 1), 0, 3, 0)])))
        self.assertFalse(self.holds(changed(HAND_WAYS, 0, joins=HAND_WAYS[0][1] + [((0, 0), 0, 3, 0)])))

    def test_places_that_are_none_and_pads_too_few(self):
        for places in ([], [(0, 0)], [(0, 0), (0, 0)], [(0, 0), (1, 1), (0, 1)], [(0, 0), (2, 1)], [(0, 0), (1, True)],
                       None, "", [None, None], [(0, 0), [1, 1, 1]], 0, [[0, 0], "11"]):
            self.assertFalse(self.holds(HAND_WAYS, places=places))
        self.assertFalse(self.holds(HAND_WAYS, places=[(1, 1), (0, 0)]))
        self.assertFalse(self.holds(HAND_WAYS, places=[(0, 0), (1, 0)]))
        for ins in (4, 5):
            self.assertEqual(self.holds([], Pack(ins, [], []), Floor(1, 1, 1), []), ins == 4)

    def test_wrong_forms(self):
        for strange in STRANGE + (None, [], ("h", 0, -1, True), ((0, 0), False, 1, 0), ((0, 0), 0, True, 0)):
            for ways in exchanged(HAND_WAYS, strange):
                if not same_papers(ways, HAND_WAYS):
                    self.assertFalse(self.holds(ways), ways)

    def test_strange_things_beside_good_ones(self):
        for strange in STRANGE + (None, [], 0, ("h", 0, -1), ("h", 0, -1, 0, 0), ("h", 0, -1, True), ((0, 0), 0, 1, True)):
            for number, (drives, joins, taps) in enumerate(HAND_WAYS):
                self.assertFalse(self.holds(changed(HAND_WAYS, number, drives=drives + [strange])))
                self.assertFalse(self.holds(changed(HAND_WAYS, number, joins=joins + [strange])))
                self.assertFalse(self.holds(changed(HAND_WAYS, number, taps=taps + [strange])))
            self.assertFalse(self.holds(HAND_WAYS + [strange]))

    def test_many_ways_bent(self):
        told = []
        for seed, (pack, floor, places, ways) in enumerate(led_cases(40)):
            self.assertTrue(self.holds(ways, pack, floor, places))
            self.assertTrue(plain_hold(pack, floor, places, ways))
            for turn in range(15 if ways else 0):
                bent = self.bent(random.Random(seed * 100 + turn), floor, ways)
                answer = self.holds(bent, pack, floor, places)
                self.assertEqual(answer, plain_hold(pack, floor, places, bent))
                told.append(answer)
        self.assertGreater(told.count(False), 200)
        self.assertGreater(told.count(True), 20)

    def bent(self, source, floor, ways):
        """The ways with one thing changed."""
        number = source.randrange(len(ways))
        parts = [list(part) for part in ways[number]]
        kind = source.randrange(5)
        if kind == 0:
            parts[0].append(source.choice(wires_of(floor)))
        elif kind == 1:
            low, high = sorted(source.sample(range(4), 2))
            box = (source.randrange(floor.rows), source.randrange(floor.columns))
            parts[1].append((box, low, high, source.randrange(floor.tracks)))
        elif kind == 2 and parts[1]:
            parts[1].pop(source.randrange(len(parts[1])))
        elif kind == 3:
            wires = sorted(plain_wires(ways[number]))
            parts[2][source.randrange(len(parts[2]))] = source.choice(wires)
        elif kind == 4 and parts[1]:
            box, low, high, track = parts[1][-1]
            extra = [(box, one, other, track) for one in range(4) for other in range(one + 1, 4)]
            parts[1].append(source.choice(extra))
        return ways[:number] + [tuple(parts)] + ways[number + 1:]

    def test_nothing_is_changed(self):
        ways = with_kind(HAND_WAYS, list)
        self.holds(ways)
        self.assertEqual(ways, with_kind(HAND_WAYS, list))
        self.assertEqual(len(lists_in(ways)), len(lists_in(with_kind(HAND_WAYS, list))))


if __name__ == "__main__":
    unittest.main()
