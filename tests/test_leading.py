"""Ways that are found."""

import random
import unittest

from bitfloor.errors import FloorError, NoRoom, NoWays
from bitfloor.floors import Floor
from bitfloor.leading import led
from bitfloor.packs import Pack
from bitfloor.signals import signals_of
from bitfloor.wayscheck import way_wires, ways_hold
from samples import HAND_FLOOR, HAND_PACK, HAND_PLACES, STRANGE, lists_in, random_pack, with_kind


def random_places(pack, floor, source):
    cells = [(row, column) for row in range(floor.rows) for column in range(floor.columns)]
    return source.sample(cells, len(pack.blocks))


def chain(count):
    """A row of blocks, each fed by the one ahead, the last one the out: one signal more than blocks."""
    sources = [("in", 0)] + [("block", number) for number in range(count - 1)]
    return Pack(1, [([source], 2, 0, 0) for source in sources], [("block", count - 1)])


class LedTest(unittest.TestCase):
    def found(self, pack, floor, places, rounds):
        """The ways, which hold, or the number of the signal without one."""
        try:
            ways = led(pack, floor, places, rounds)
        except NoWays as refusal:
            self.assertIs(type(refusal), NoWays)
            self.assertIsInstance(refusal, FloorError)
            self.assertIs(type(refusal.signal), int)
            self.assertIn(refusal.signal, range(len(signals_of(pack))))
            return refusal.signal
        self.assertIs(type(ways), list)
        self.assertTrue(all(type(way) is tuple and all(type(part) is list for part in way) for way in ways))
        self.assertTrue(all(type(thing) is tuple for way in ways for part in way for thing in part))
        self.assertIs(ways_hold(pack, floor, places, ways), True)
        return ways

    def test_no_more_signals_than_tracks(self):
        count = 0
        for seed in range(150):
            source = random.Random(seed)
            pack = random_pack(seed, 8)
            wanted = len(signals_of(pack))
            if wanted > 8:
                continue
            floor = Floor(source.randint(3, 10), source.randint(3, 10), max(1, wanted))
            places = random_places(pack, floor, source)
            for rounds in (1, 2, 100):
                self.assertIsInstance(self.found(pack, floor, places, rounds), list)
            if wanted < 8:
                floor = Floor(floor.rows, floor.columns, 8)
                self.assertIsInstance(self.found(pack, floor, places, 1), list)
            count += wanted > 3
        self.assertGreater(count, 50)

    def test_one_track_for_one_signal(self):
        pack = Pack(1, [([("in", 0)], 1, 0, 0)] * 9, [("in", 0)] * 5)
        floor = Floor(3, 3, 1)
        for seed in range(10):
            places = random_places(pack, floor, random.Random(seed))
            self.assertIsInstance(self.found(pack, floor, places, 1), list)

    def test_many_signals(self):
        answers = []
        for seed in range(80):
            source = random.Random(seed)
            pack = random_pack(seed, 20)
            floor = Floor(source.randint(5, 8), source.randint(5, 8), source.randint(1, 8))
            places = random_places(pack, floor, source)
            answers.append(self.found(pack, floor, places, source.choice((1, 3, 30))))
        self.assertGreater(len([answer for answer in answers if isinstance(answer, list)]), 40)
        self.assertGreater(len([answer for answer in answers if isinstance(answer, int)]), 3)

    def test_more_rounds_find_ways_that_one_does_not(self):
        better = 0
        for seed in range(40):
            pack = random_pack(seed, 20)
            floor = Floor(5, 5, 4)
            places = random_places(pack, floor, random.Random(seed))
            one = self.found(pack, floor, places, 1)
            better += isinstance(one, int) and isinstance(self.found(pack, floor, places, 60), list)
        self.assertGreater(better, 3)

    def test_no_rounds(self):
        with self.assertRaises(NoWays) as caught:
            led(HAND_PACK, HAND_FLOOR, HAND_PLACES, 0)
        self.assertEqual(caught.exception.signal, 0)
        # one signal alone
        with self.assertRaises(NoWays) as caught:
            led(Pack(2, [], [("in", 1)]), HAND_FLOOR, [], 0)
        self.assertEqual(caught.exception.signal, 0)
        for pack, places in ((Pack(0, [], []), []), (Pack(3, [([], 1, 1, 1)], []), [(0, 1)])):
            self.assertEqual(led(pack, HAND_FLOOR, places, 0), [])
            self.assertEqual(led(pack, HAND_FLOOR, tuple(places), 0), [])

    def test_no_signals(self):
        for rounds in (1, 100):
            self.assertEqual(led(Pack(4, [([], 0, 0, 0)] * 2, []), Floor(1, 2, 1), [(0, 1), (0, 0)], rounds), [])

    def test_too_few_tracks(self):
        # both ins must go through the one box, and all four wires of it end at pads
        pack = Pack(2, [], [("in", 0), ("in", 1)])
        self.assertIsInstance(self.found(pack, Floor(1, 1, 1), [], 10), list)
        # all four wires at the cell are heard by it, so it has none to drive its own out's pad with
        pack = Pack(3, [([("in", 0), ("in", 1), ("in", 2)], 1, 0, 0)], [("block", 0)])
        self.assertIsInstance(self.found(pack, Floor(1, 1, 1), [(0, 0)], 10), list)
        pack = Pack(2, [([("in", 0), ("in", 1)], 1, 0, 0)], [("block", 0), ("in", 0)])
        self.assertIsInstance(self.found(pack, Floor(1, 1, 1), [(0, 0)], 10), list)
        pack = Pack(2, [([("in", 0), ("in", 1), ("block", 0)], 1, 1, 0)], [("in", 0), ("in", 1)])
        for rounds in (1, 2, 100):
            self.assertIsInstance(self.found(pack, Floor(1, 1, 1), [(0, 0)], rounds), int)
            self.assertIsInstance(self.found(pack, Floor(1, 1, 3), [(0, 0)], rounds), list)

    def test_far_corners_of_a_great_floor(self):
        floor = Floor(10, 10, 2)
        corners = [(0, 0), (9, 9), (0, 9), (9, 0)]
        pack = chain(4)
        for places in (corners, corners[::-1], corners[2:] + corners[:2]):
            self.assertIsInstance(self.found(pack, floor, places, 30), list)
        ring = Pack(0, [([("block", other) for other in range(4)], 1, 1, 0)] * 4, [("block", 0)])
        self.assertIsInstance(self.found(ring, Floor(10, 10, 8), corners, 1), list)
        self.assertIsInstance(self.found(ring, Floor(10, 10, 4), corners, 1), list)

    def test_a_long_row_on_one_track(self):
        # along the first row, then down and up its columns, back to the pad of the out
        places = [(0, column) for column in range(10)]
        places += [(row if column % 2 else 10 - row, column) for column in range(9, -1, -1) for row in range(1, 10)]
        self.assertIsInstance(self.found(chain(100), Floor(10, 10, 1), places, 20), list)

    def test_lists_and_tuples_are_alike(self):
        ways = led(HAND_PACK, HAND_FLOOR, HAND_PLACES, 5)
        for kind in (list, tuple):
            self.assertEqual(led(HAND_PACK, HAND_FLOOR, with_kind(HAND_PLACES, kind), 5), ways)

    def test_what_is_told_is_the_askers_own(self):
        places = list(HAND_PLACES)
        ways = led(HAND_PACK, HAND_FLOOR, places, 5)
        self.assertEqual(places, HAND_PLACES)
        found = lists_in(ways)
        self.assertEqual(len(found), 10)
        self.assertEqual(len({id(part) for part in found}), 10)
        kept = [[list(part) for part in way] for way in ways]
        for part in found:
            part.clear()
        self.assertEqual([[list(part) for part in way] for way in led(HAND_PACK, HAND_FLOOR, places, 5)], kept)

    def test_a_way_has_no_wires_that_lead_to_no_sink(self):
        pack = Pack(1, [], [("in", 0)])
        ways = led(pack, Floor(1, 10, 1), [], 1)
        # pad 0 is left of the row and pad 1 above its first cell
        self.assertEqual(way_wires(Floor(1, 10, 1), ways[0]), [("h", 0, -1, 0), ("v", -1, 0, 0)])


class NoRoomTest(unittest.TestCase):
    def assert_no_room(self, pack, floor, places):
        for rounds in (0, 1, 100):
            with self.assertRaises(NoRoom) as caught:
                led(pack, floor, places, rounds)
            self.assertIs(type(caught.exception), NoRoom)

    def test_pads_too_few(self):
        self.assertEqual(led(Pack(4, [], []), Floor(1, 1, 1), [], 0), [])
        self.assert_no_room(Pack(5, [], []), Floor(1, 1, 1), [])
        self.assert_no_room(Pack(2, [], [("in", 0)] * 3), Floor(1, 1, 8), [])

    def test_places_that_are_none(self):
        for places in ([], [(0, 0)], [(0, 0), (0, 0)], [(0, 0), (1, 1), (0, 1)], [(0, 0), (2, 1)], [(0, 0), (-1, 0)],
                       [(0, 0), [0, 0]]):
            self.assert_no_room(HAND_PACK, HAND_FLOOR, places)
        for strange in STRANGE + (None, (0, True)):
            self.assert_no_room(HAND_PACK, HAND_FLOOR, [(0, 0), strange])
        self.assert_no_room(Pack(1, [], []), HAND_FLOOR, [(0, 0)])


if __name__ == "__main__":
    unittest.main()
