"""Signals of a pack and their stretch."""

import random
import unittest

from bitfloor.errors import FloorError, NoRoom
from bitfloor.floors import Floor, pads_of
from bitfloor.packs import Pack
from bitfloor.signals import signals_of, stretch_of
from samples import STRANGE, lists_in, random_pack

# in 1 and block 3 have no sink; block 0 feeds block 2 twice
PACK = Pack(
    3,
    [([("in", 2), ("in", 0)], 6, 0, 0), ([("block", 1), ("block", 2)], 8, 1, 1),
     ([("block", 0), ("in", 0), ("block", 0)], 150, 0, 0), ([("block", 1)], 2, 0, 0)],
    [("block", 2), ("in", 2), ("block", 1), ("block", 2)],
)
SIGNALS = [
    (("in", 0), [("block", 0, 1), ("block", 2, 1)]),
    (("in", 2), [("block", 0, 0), ("out", 1)]),
    (("block", 0), [("block", 2, 0), ("block", 2, 2)]),
    (("block", 1), [("block", 1, 0), ("block", 3, 0), ("out", 2)]),
    (("block", 2), [("block", 1, 1), ("out", 0), ("out", 3)]),
]
PLACES = [(0, 0), (0, 1), (1, 0), (2, 2)]


class SignalsTest(unittest.TestCase):
    def test_by_hand(self):
        self.assertEqual(signals_of(PACK), SIGNALS)

    def test_no_signals(self):
        self.assertEqual(signals_of(Pack(0, [], [])), [])
        self.assertEqual(signals_of(Pack(5, [], [])), [])
        self.assertEqual(signals_of(Pack(5, [([], 1, 0, 0), ([], 0, 1, 1)], [])), [])

    def test_outs_that_are_ins(self):
        self.assertEqual(signals_of(Pack(2, [], [("in", 1), ("in", 0), ("in", 1)])),
                         [(("in", 0), [("out", 1)]), (("in", 1), [("out", 0), ("out", 2)])])

    def test_more_than_ten_of_a_kind_are_in_order(self):
        pack = Pack(12, [([("in", 11 - number)], 2, 0, 0) for number in range(12)],
                    [("block", 11 - number) for number in range(12)])
        told = signals_of(pack)
        self.assertEqual([source for source, sinks in told],
                         [("in", number) for number in range(12)] + [("block", number) for number in range(12)])
        self.assertEqual(told[0], (("in", 0), [("block", 11, 0)]))
        self.assertEqual(told[12], (("block", 0), [("out", 11)]))

    def test_many_packs(self):
        for seed in range(60):
            pack = random_pack(seed)
            sinks = [(source, ("block", number, place)) for number, block in enumerate(pack.blocks)
                     for place, source in enumerate(block[0])]
            sinks += [(source, ("out", number)) for number, source in enumerate(pack.outs)]
            sources = [("in", number) for number in range(pack.ins)]
            sources += [("block", number) for number in range(len(pack.blocks))]
            told = [(source, [sink for other, sink in sinks if other == source]) for source in sources]
            self.assertEqual(signals_of(pack), [signal for signal in told if signal[1]])

    def test_what_is_told_is_the_askers_own(self):
        told = signals_of(PACK)
        found = lists_in(told)
        self.assertEqual(len(found), 6)
        self.assertEqual(len({id(part) for part in found}), 6)
        self.assertTrue(all(type(signal) is tuple for signal in told))
        for part in found:
            part.clear()
        self.assertEqual(signals_of(PACK), SIGNALS)


def plain_stretch(pack, floor, places):
    pads = pads_of(floor)
    total = 0
    for source, sinks in signals_of(pack):
        spots = []
        for end in [source] + sinks:
            if end[0] == "block":
                spots.append(places[end[1]])
            else:
                spots.append(pads[end[1] + (pack.ins if end[0] == "out" else 0)])
        for side in (0, 1):
            ordered = sorted(spot[side] for spot in spots)
            total += ordered[-1] - ordered[0]
    return total


class StretchTest(unittest.TestCase):
    def test_by_hand(self):
        # pads 0 to 2 are left of the rows, 3 to 5 above the columns, 6 right of row 0; outs have pads 3 to 6
        floor = Floor(3, 3, 1)
        # in 0: (0, -1), (0, 0), (1, 0): 1 + 1; in 2: (2, -1), (0, 0), (-1, 1): 3 + 2; block 0: (0, 0), (1, 0): 1
        # block 1: (0, 1), (2, 2), (-1, 2): 3 + 1; block 2: (1, 0), (0, 1), (-1, 0), (0, 3): 2 + 3
        self.assertEqual(stretch_of(PACK, floor, PLACES), 2 + 5 + 1 + 4 + 5)
        self.assertEqual(stretch_of(PACK, floor, tuple(PLACES)), 17)
        self.assertEqual(stretch_of(PACK, Floor(3, 3, 8), PLACES), 17)
        self.assertEqual(stretch_of(PACK, floor, [list(cell) for cell in PLACES]), 17)

    def test_one_signal(self):
        pack = Pack(1, [([("in", 0)], 2, 0, 0)], [])
        for floor, cell, stretch in ((Floor(1, 1, 1), (0, 0), 1), (Floor(1, 5, 1), (0, 4), 5),
                                     (Floor(4, 1, 1), (3, 0), 4), (Floor(10, 10, 1), (9, 9), 19)):
            self.assertEqual(stretch_of(pack, floor, [cell]), stretch)

    def test_a_block_that_feeds_itself_alone(self):
        self.assertEqual(stretch_of(Pack(0, [([("block", 0)], 1, 1, 0)], []), Floor(2, 2, 1), [(1, 1)]), 0)

    def test_an_in_that_is_an_out(self):
        # pads 0 and 1 are left and above, pads 2 and 3 right and below
        self.assertEqual(stretch_of(Pack(1, [], [("in", 0)]), Floor(1, 1, 1), []), 2)
        self.assertEqual(stretch_of(Pack(2, [], [("in", 0), ("in", 1)]), Floor(1, 1, 1), ()), 4)

    def test_no_signals(self):
        self.assertEqual(stretch_of(Pack(0, [], []), Floor(1, 1, 1), []), 0)
        self.assertEqual(stretch_of(Pack(1, [([], 0, 0, 0)], []), Floor(2, 2, 1), [(1, 0)]), 0)

    def test_many_places(self):
        for seed in range(60):
            pack = random_pack(seed)
            floor = Floor(5 + seed % 6, 10 - seed % 6, 2)
            cells = [(row, column) for row in range(floor.rows) for column in range(floor.columns)]
            places = random.Random(seed).sample(cells, len(pack.blocks))
            self.assertEqual(stretch_of(pack, floor, places), plain_stretch(pack, floor, places))


class NoRoomTest(unittest.TestCase):
    def assert_no_room(self, pack, floor, places):
        with self.assertRaises(NoRoom, msg=str(places)) as caught:
            stretch_of(pack, floor, places)
        self.assertIs(type(caught.exception), NoRoom)
        self.assertIsInstance(caught.exception, FloorError)

    def test_pads_too_few(self):
        floor = Floor(1, 1, 1)
        for ins in range(7):
            for outs in range(7):
                pack = Pack(ins + 1, [], [("in", 0)] * outs)
                if ins + 1 + outs <= 4:
                    self.assertIsInstance(stretch_of(pack, floor, []), int)
                else:
                    self.assert_no_room(pack, floor, [])
        self.assertEqual(stretch_of(Pack(10, [], []), Floor(2, 3, 1), []), 0)
        self.assert_no_room(Pack(11, [], []), Floor(2, 3, 1), [])
        self.assert_no_room(Pack(10 ** 30, [], []), Floor(10, 10, 8), [])

    def test_places_too_few_and_too_many(self):
        floor = Floor(3, 3, 1)
        for places in ([], PLACES[:3], PLACES + [(2, 0)], ()):
            self.assert_no_room(PACK, floor, places)
        self.assert_no_room(Pack(0, [], []), floor, [(0, 0)])
        self.assert_no_room(Pack(0, [([], 0, 0, 0)] * 2, []), Floor(1, 1, 1), [(0, 0)])

    def test_places_alike(self):
        floor = Floor(3, 3, 1)
        for number in range(1, 4):
            self.assert_no_room(PACK, floor, PLACES[:number] + [PLACES[0]] + PLACES[number + 1:])
            self.assert_no_room(PACK, floor, PLACES[:number] + [list(PLACES[0])] + PLACES[number + 1:])

    def test_places_off_the_floor(self):
        floor = Floor(3, 3, 1)
        for cell in ((3, 0), (0, 3), (-1, 0), (0, -1), (3, 3), (10 ** 30, 0), (0, -10 ** 30)):
            for number in range(4):
                self.assert_no_room(PACK, floor, PLACES[:number] + [cell] + PLACES[number + 1:])

    def test_places_that_are_none(self):
        floor = Floor(3, 3, 1)
        for strange in STRANGE + (None, [], (), (1,), (1, True), (1, 1, 1), ("1", "1"), (None, 1), ([1], 1), "11"):
            self.assert_no_room(PACK, floor, strange)
            for number in range(4):
                self.assert_no_room(PACK, floor, PLACES[:number] + [strange] + PLACES[number + 1:])

    def test_nothing_is_changed(self):
        places = list(PLACES)
        stretch_of(PACK, Floor(3, 3, 1), places)
        self.assertEqual(places, PLACES)
        places[3] = (9, 9)
        self.assert_no_room(PACK, Floor(3, 3, 1), places)
        self.assertEqual(places, PLACES[:3] + [(9, 9)])


if __name__ == "__main__":
    unittest.main()
