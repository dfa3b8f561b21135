"""Times that a board needs."""

import unittest

from bitfloor.floors import Floor
from bitfloor.leading import led
from bitfloor.packs import Pack
from bitfloor.signals import signals_of
from bitfloor.times import arrivals_of, needed_time, worst_row
from bitfloor.wayscheck import ways_hold
from samples import (
    HAND_FLOOR, HAND_PACK, HAND_PLACES, HAND_WAYS, led_cases, lists_in, plain_side, random_pack, with_kind,
)

TIMES = ((1, 1), (0, 0), (5, 0), (0, 7), (3, 2), (10 ** 29 + 7, 10 ** 29 + 1), (1, 10 ** 30 - 1), (10 ** 30 - 1, 1))


def plain_count(way, tap):
    """The fewest wires from a drive to a tap, both counted, by rows of wires that grow longer."""
    reached = {tuple(wire) for wire in way[0]}
    count = 1
    while tuple(tap) not in reached:
        count += 1
        more = set(reached)
        for box, low, high, track in way[1]:
            one, other = plain_side(box, low, track), plain_side(box, high, track)
            if one in reached:
                more.add(other)
            if other in reached:
                more.add(one)
        reached = more
    return count


class PlainTimes:
    """All times by the document's words."""

    def __init__(self, pack, ways, table, wire):
        self.pack = pack
        self.table = table
        self.leads = {}
        for (source, sinks), way in zip(signals_of(pack), ways):
            for sink, tap in zip(sinks, way[2]):
                self.leads[sink] = (source, wire * plain_count(way, tap))
        self.known = {}

    def has(self, source):
        """When a source has its value."""
        if source[0] == "in" or self.pack.blocks[source[1]][2]:
            return 0
        return self.takes(source[1])

    def takes(self, number):
        """When a block has its table's value."""
        if number not in self.known:
            comings = [self.comes(("block", number, place)) for place in range(len(self.pack.blocks[number][0]))]
            self.known[number] = max(comings, default=0) + self.table
        return self.known[number]

    def comes(self, sink):
        source, time = self.leads[sink]
        return self.has(source) + time

    def arrivals(self):
        return ([self.takes(number) for number in range(len(self.pack.blocks))],
                [self.comes(("out", number)) for number in range(len(self.pack.outs))])


class TimesTest(unittest.TestCase):
    def assert_shown(self, pack, floor, places, ways, table, wire, row):
        """The row shows the needed time, as the document tells."""
        plain = PlainTimes(pack, ways, table, wire)
        blocks, outs = plain.arrivals()
        needed = max(blocks + outs, default=0)
        self.assertEqual(needed_time(pack, floor, places, ways, table, wire), needed)
        self.assertIs(type(row), list)
        if not blocks + outs:
            self.assertEqual(row, [])
            return
        last = row[-1]
        self.assertEqual(outs[last[1]] if last[0] == "out" else blocks[last[1]], needed)
        self.assertTrue(all(thing[0] in ("in", "block") for thing in row[:-1]))
        self.assertIn(last[0], ("block", "out"))
        first = row[0]
        if first[0] == "block" and not (len(row) > 1 and pack.blocks[first[1]][2]):
            self.assertEqual(pack.blocks[first[1]][0], ())
        for thing in row[1:-1]:
            self.assertEqual((thing[0], pack.blocks[thing[1]][2]), ("block", 0))
        for source, end in zip(row, row[1:]):
            if end[0] == "out":
                self.assertEqual(pack.outs[end[1]], source)
                self.assertEqual(outs[end[1]], plain.has(source) + plain.leads[end][1])
            else:
                sinks = [end + (place,) for place, other in enumerate(pack.blocks[end[1]][0]) if other == source]
                self.assertIn(blocks[end[1]], [plain.has(source) + plain.leads[sink][1] + table for sink in sinks])

    def assert_times(self, pack, floor, places, ways, table, wire):
        told = arrivals_of(pack, floor, places, ways, table, wire)
        self.assertIs(type(told), tuple)
        self.assertEqual(told, PlainTimes(pack, ways, table, wire).arrivals())
        self.assert_shown(pack, floor, places, ways, table, wire, worst_row(pack, floor, places, ways, table, wire))

    def test_by_hand(self):
        for table, wire in TIMES:
            # block 0 one wire behind the in; block 1 two wires behind block 0 and three behind the in; both outs two
            told = arrivals_of(HAND_PACK, HAND_FLOOR, HAND_PLACES, HAND_WAYS, table, wire)
            self.assertEqual(told, ([wire + table, 3 * wire + 2 * table], [2 * wire, 2 * wire]))
            self.assertEqual(needed_time(HAND_PACK, HAND_FLOOR, HAND_PLACES, HAND_WAYS, table, wire), 3 * wire + 2 * table)
        row = worst_row(HAND_PACK, HAND_FLOOR, HAND_PLACES, HAND_WAYS, 1, 1)
        self.assertEqual(row, [("in", 0), ("block", 0), ("block", 1)])
        for kind in (list, tuple):
            things = (HAND_PACK, HAND_FLOOR, with_kind(HAND_PLACES, kind), with_kind(HAND_WAYS, kind), 3, 2)
            self.assertEqual(arrivals_of(*things), ([5, 12], [4, 4]))
            self.assertEqual(needed_time(*things), 12)
            self.assertEqual(worst_row(*things), row)

    def test_the_fewest_wires_of_several_rows_of_joins(self):
        # a ring round four boxes: the other way round it is longer
        pack = Pack(0, [([("block", 0)], 1, 1, 0), ([("block", 0)], 1, 0, 0), ([("block", 0)], 1, 0, 0)], [])
        places = [(0, 0), (0, 2), (1, 1)]
        floor = Floor(2, 3, 1)
        joins = [((0, 1), 0, 1, 0), ((0, 1), 0, 3, 0), ((0, 2), 0, 3, 0), ((1, 2), 0, 2, 0), ((1, 1), 0, 1, 0)]
        ways = [([("h", 0, 0, 0)], joins, [("h", 0, 0, 0), ("h", 0, 1, 0), ("h", 1, 1, 0)])]
        self.assertTrue(ways_hold(pack, floor, places, ways))
        # h 0 0, h 0 1, v 0 2, h 1 1
        self.assertEqual(arrivals_of(pack, floor, places, ways, 100, 1), ([101, 102, 104], []))
        ways[0][1].append(((1, 1), 1, 2, 0))
        self.assertTrue(ways_hold(pack, floor, places, ways))
        # by v 0 1 it comes down at once
        self.assertEqual(arrivals_of(pack, floor, places, ways, 100, 1), ([101, 102, 103], []))
        self.assertEqual(worst_row(pack, floor, places, ways, 100, 1), [("block", 0), ("block", 2)])

    def test_several_drives(self):
        pack = Pack(0, [([("block", 0)], 1, 1, 0), ([("block", 0), ("block", 0)], 1, 0, 0)], [])
        floor = Floor(1, 3, 2)
        places = [(0, 0), (0, 2)]
        # two wires on track 0, three on track 1, whose first one is left of block 0
        ways = [([("h", 0, 0, 0), ("h", 0, -1, 1)], [((0, 1), 0, 1, 0), ((0, 0), 0, 1, 1), ((0, 1), 0, 1, 1)],
                 [("h", 0, -1, 1), ("h", 0, 1, 1), ("h", 0, 1, 0)])]
        self.assertTrue(ways_hold(pack, floor, places, ways))
        self.assertEqual(arrivals_of(pack, floor, places, ways, 0, 10), ([10, 30], []))
        nearer = [([("h", 0, 0, 0), ("h", 0, -1, 1), ("h", 0, 0, 1)], ways[0][1], ways[0][2])]
        self.assertTrue(ways_hold(pack, floor, places, nearer))
        self.assertEqual(arrivals_of(pack, floor, places, nearer, 0, 10), ([10, 20], []))

    def test_a_drive_that_is_the_tap(self):
        pack = Pack(1, [([("in", 0)], 1, 0, 0)], [])
        wire = ("h", 0, -1, 0)
        self.assertEqual(arrivals_of(pack, Floor(1, 1, 1), [(0, 0)], [([wire], [], [wire])], 5, 3), ([8], []))

    def test_blocks_without_sources(self):
        pack = Pack(0, [([], 1, 0, 0), ([], 1, 1, 0)], [("block", 0), ("block", 1)])
        floor = Floor(1, 2, 1)
        # pads 0 and 1 are left of the row and above its first cell
        ways = [([("h", 0, -1, 0)], [], [("h", 0, -1, 0)]), ([("h", 0, 0, 0)], [((0, 0), 1, 2, 0)], [("v", -1, 0, 0)])]
        things = (pack, floor, [(0, 0), (0, 1)], ways)
        self.assertTrue(ways_hold(*things))
        # out 1 hears what the kept block holds, which is there at once
        self.assertEqual(arrivals_of(*things, 7, 2), ([7, 7], [9, 4]))
        self.assertEqual(worst_row(*things, 7, 2), [("block", 0), ("out", 0)])
        self.assertEqual(arrivals_of(*things, 0, 2), ([0, 0], [2, 4]))
        self.assertEqual(worst_row(*things, 0, 2), [("block", 1), ("out", 1)])
        self.assertEqual(needed_time(*things, 7, 0), 7)
        alone = Pack(0, [([], 1, 0, 0)], [])
        self.assertEqual(worst_row(alone, floor, [(0, 1)], [], 7, 2), [("block", 0)])
        alone = Pack(0, [([], 1, 1, 0)], [])
        self.assertEqual(worst_row(alone, floor, [(0, 1)], [], 7, 2), [("block", 0)])
        self.assertEqual(arrivals_of(alone, floor, [(0, 1)], [], 7, 2), ([7], []))

    def test_a_kept_block_that_hears_itself(self):
        pack = Pack(0, [([("block", 0)], 1, 1, 0)], [])
        ways = [([("h", 0, 0, 0)], [], [("h", 0, 0, 0)])]
        self.assertEqual(worst_row(pack, Floor(1, 1, 1), [(0, 0)], ways, 4, 1), [("block", 0), ("block", 0)])
        self.assertEqual(arrivals_of(pack, Floor(1, 1, 1), [(0, 0)], ways, 4, 1), ([5], []))

    def test_outs_fed_by_ins(self):
        pack = Pack(1, [], [("in", 0), ("in", 0)])
        floor = Floor(1, 1, 1)
        ways = [([("h", 0, -1, 0)], [((0, 0), 0, 2, 0), ((0, 0), 0, 1, 0)], [("v", -1, 0, 0), ("h", 0, 0, 0)])]
        self.assertEqual(arrivals_of(pack, floor, [], ways, 9, 5), ([], [10, 10]))
        self.assertEqual(needed_time(pack, floor, [], ways, 9, 5), 10)
        self.assertIn(worst_row(pack, floor, [], ways, 9, 5), ([("in", 0), ("out", 0)], [("in", 0), ("out", 1)]))

    def test_nothing(self):
        for pack in (Pack(0, [], []), Pack(3, [], [])):
            self.assertEqual(arrivals_of(pack, HAND_FLOOR, [], [], 3, 4), ([], []))
            self.assertEqual(needed_time(pack, HAND_FLOOR, [], [], 3, 4), 0)
            self.assertEqual(worst_row(pack, HAND_FLOOR, (), (), 3, 4), [])

    def test_a_ladder(self):
        # each block is fed twice by the one ahead
        sources = [[("in", 0)] * 2] + [[("block", number)] * 2 for number in range(35)]
        pack = Pack(1, [(fed, 8, 0, 0) for fed in sources], [("block", 35)])
        floor = Floor(6, 6, 8)
        places = [(number // 6, number % 6) for number in range(36)]
        ways = led(pack, floor, places, 30)
        for table, wire in TIMES:
            self.assert_times(pack, floor, places, ways, table, wire)
        row = worst_row(pack, floor, places, ways, 3, 2)
        self.assertEqual(row, [("in", 0)] + [("block", number) for number in range(36)] + [("out", 0)])

    def test_many(self):
        lengths = []
        for number, (pack, floor, places, ways) in enumerate(led_cases(100)):
            for table, wire in (TIMES[number % len(TIMES)], (2, 3)):
                self.assert_times(pack, floor, places, ways, table, wire)
            lengths.append(len(worst_row(pack, floor, places, ways, 2, 3)))
        self.assertGreater(len([length for length in lengths if length > 3]), 20)
        self.assertIn(2, lengths)

    def test_packs_of_more_blocks(self):
        for seed in range(5):
            pack = random_pack(seed, 25)
            places = [(number // 5, number % 5) for number in range(len(pack.blocks))]
            floor = Floor(5, 5, 8)
            self.assert_times(pack, floor, places, led(pack, floor, places, 100), 3, 1)

    def test_what_is_told_is_the_askers_own(self):
        things = (HAND_PACK, HAND_FLOOR, HAND_PLACES, HAND_WAYS, 3, 2)
        told = arrivals_of(*things)
        found = lists_in(told)
        self.assertEqual(len({id(part) for part in found}), 2)
        for part in found + [worst_row(*things)]:
            part.clear()
        self.assertEqual(arrivals_of(*things), ([5, 12], [4, 4]))
        self.assertEqual(len(worst_row(*things)), 3)


if __name__ == "__main__":
    unittest.main()
