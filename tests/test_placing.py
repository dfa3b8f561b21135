"""Places and the steps that lead to them."""

import random
import unittest

from bitfloor.errors import FloorError, NoRoom
from bitfloor.floors import Floor
from bitfloor.packs import Pack
from bitfloor.placing import placed, places_hold
from bitfloor.signals import stretch_of
from samples import STRANGE, exchanged, lists_in, random_pack, same_papers, with_kind

# block 0 hears in 0, whose pad is left of row 0, and block 2, which is the out, whose pad is above column 0
PACK = Pack(1, [([("in", 0), ("block", 2)], 6, 0, 0), ([], 1, 0, 0), ([("in", 0)], 2, 1, 0)], [("block", 2)])


def cells_by_rows(floor):
    return [(row, column) for row in range(floor.rows) for column in range(floor.columns)]


def swapped(places, one, other):
    return [{one: other, other: one}.get(cell, cell) for cell in places]


def all_pairs(floor):
    cells = cells_by_rows(floor)
    return [(one, other) for number, one in enumerate(cells) for other in cells[number + 1:]]


def plain_placed(pack, floor, most):
    """The steps by the document's words, every pair tried with the whole stretch."""
    places = cells_by_rows(floor)[:len(pack.blocks)]
    steps = []
    while len(steps) < most:
        before = stretch_of(pack, floor, places)
        for one, other in all_pairs(floor):
            after = stretch_of(pack, floor, swapped(places, one, other))
            if after < before:
                places = swapped(places, one, other)
                steps.append((one, other, after))
                break
        else:
            break
    return places, steps


def floor_for(pack, source):
    """A floor with room for the pack, often with empty cells."""
    while True:
        floor = Floor(source.randint(1, 6), source.randint(1, 6), 1)
        room = floor.rows * floor.columns >= len(pack.blocks)
        if room and 2 * (floor.rows + floor.columns) >= pack.ins + len(pack.outs):
            return floor


class PlacedTest(unittest.TestCase):
    def test_by_hand(self):
        # on one row of four cells, pad 0 left of it and pad 1 above its first cell: in 0 at column -1 leads to blocks
        # 0 and 2, block 2 to block 0 and to row -1 and column 0
        floor = Floor(1, 4, 1)
        # in 0: columns -1 to 2; block 2: rows -1 to 0 and columns 0 to 2
        self.assertEqual(placed(PACK, floor, 0), ([(0, 0), (0, 1), (0, 2)], []))
        # blocks 0 and 1 exchanged: in 0 still comes to 2, block 2's columns are still 0 to 2; so the first pair that
        # helps has cells 1 and 2: columns -1 to 1 and 0 to 1
        self.assertEqual(stretch_of(PACK, floor, [(0, 0), (0, 1), (0, 2)]), 3 + 3)
        told = placed(PACK, floor, 100)
        self.assertEqual(told, ([(0, 0), (0, 2), (0, 1)], [((0, 1), (0, 2), 4)]))
        self.assertIsInstance(told, tuple)
        self.assertIsInstance(told[0], list)
        self.assertIsInstance(told[1], list)

    def test_a_step_to_an_empty_cell(self):
        # pad 3 is above column 2, where nothing stands at first
        pack = Pack(4, [([("in", 3)], 1, 0, 0)], [])
        self.assertEqual(placed(pack, Floor(1, 4, 1), 1), ([(0, 1)], [((0, 0), (0, 1), 2)]))
        self.assertEqual(placed(pack, Floor(1, 4, 1), 2), ([(0, 2)], [((0, 0), (0, 1), 2), ((0, 1), (0, 2), 1)]))

    def test_no_blocks_and_no_signals(self):
        self.assertEqual(placed(Pack(2, [], [("in", 0)]), Floor(2, 2, 1), 100), ([], []))
        self.assertEqual(placed(Pack(0, [([], 1, 0, 0)] * 3, []), Floor(2, 2, 1), 100), ([(0, 0), (0, 1), (1, 0)], []))

    def test_a_block_that_feeds_itself_alone(self):
        pack = Pack(0, [([("block", 0)], 1, 1, 0)], [])
        self.assertEqual(placed(pack, Floor(2, 2, 1), 100), ([(0, 0)], []))

    def test_each_step_is_the_first_that_helps(self):
        steps = 0
        empty = 0
        for seed in range(60):
            source = random.Random(seed)
            pack = random_pack(seed, 12)
            floor = floor_for(pack, source)
            for most in (0, 1, 2, 5, 100):
                told = placed(pack, floor, most)
                self.assertEqual(told, plain_placed(pack, floor, most))
                self.assertIs(places_hold(pack, floor, told[0], told[1]), True)
            steps += len(told[1])
            empty += len(pack.blocks) < floor.rows * floor.columns
        self.assertGreater(steps, 200)
        self.assertGreater(empty, 30)

    def test_more_steps_than_are_needed(self):
        for seed in range(20):
            pack = random_pack(seed, 8)
            floor = floor_for(pack, random.Random(seed))
            told = placed(pack, floor, 100)
            self.assertEqual(placed(pack, floor, len(told[1])), told)
            self.assertEqual(placed(pack, floor, len(told[1]) + 1), told)
            if told[1]:
                self.assertEqual(placed(pack, floor, len(told[1]) - 1)[1], told[1][:-1])

    def test_a_great_floor(self):
        blocks = [([("block", (number * 37 + 11) % 100), ("in", number % 20)], 6, 1, 0) for number in range(100)]
        pack = Pack(20, blocks, [("block", number) for number in range(20)])
        floor = Floor(10, 10, 1)
        places, steps = placed(pack, floor, 100)
        self.assertEqual(len(steps), 100)
        self.assertEqual((places[:3], steps[:3]), (swapped_by(floor, steps)[:3], plain_placed(pack, floor, 3)[1]))
        self.assertIs(places_hold(pack, floor, places, steps), True)

    def test_what_is_told_is_the_askers_own(self):
        floor = Floor(1, 4, 1)
        told = placed(PACK, floor, 100)
        self.assertEqual(len({id(part) for part in lists_in(told)}), 2)
        self.assertTrue(all(type(cell) is tuple for cell in told[0]))
        self.assertTrue(all(type(step) is tuple and type(step[0]) is tuple for step in told[1]))
        told[0].clear()
        told[1].clear()
        self.assertEqual(placed(PACK, floor, 100)[0], [(0, 0), (0, 2), (0, 1)])


def swapped_by(floor, steps):
    places = cells_by_rows(floor)
    for one, other, stretch in steps:
        places = swapped(places, one, other)
    return places


class NoRoomTest(unittest.TestCase):
    def assert_no_room(self, pack, floor):
        for most in (0, 1, 100):
            with self.assertRaises(NoRoom) as caught:
                placed(pack, floor, most)
            self.assertIs(type(caught.exception), NoRoom)
            self.assertIsInstance(caught.exception, FloorError)
        self.assertIs(places_hold(pack, floor, cells_by_rows(floor)[:len(pack.blocks)], []), False)

    def test_cells_just_enough_and_too_few(self):
        for rows, columns in ((1, 1), (1, 4), (3, 2), (2, 3)):
            floor = Floor(rows, columns, 1)
            count = rows * columns
            pack = Pack(0, [([], 1, 0, 0)] * count, [])
            self.assertEqual(placed(pack, floor, 5), (cells_by_rows(floor), []))
            self.assertIs(places_hold(pack, floor, cells_by_rows(floor), []), True)
            self.assert_no_room(Pack(0, [([], 1, 0, 0)] * (count + 1), []), floor)

    def test_pads_just_enough_and_too_few(self):
        floor = Floor(2, 3, 1)
        for ins in range(1, 11):
            pack = Pack(ins, [], [("in", 0)] * (10 - ins))
            self.assertEqual(placed(pack, floor, 5), ([], []))
            self.assertIs(places_hold(pack, floor, [], []), True)
            self.assert_no_room(Pack(ins, [], [("in", 0)] * (11 - ins)), floor)
            self.assert_no_room(Pack(ins + 1, [], [("in", 0)] * (10 - ins)), floor)
        self.assert_no_room(Pack(10 ** 30, [], []), floor)


class PlacesHoldTest(unittest.TestCase):
    def setUp(self):
        source = random.Random(2)
        blocks = [([("block", source.randrange(7)), ("in", source.randrange(2))], 6, 1, 0) for number in range(7)]
        self.pack = Pack(2, blocks, [("block", 6), ("block", 3)])
        self.floor = Floor(3, 4, 2)
        self.places, self.steps = placed(self.pack, self.floor, 100)
        self.assertGreater(len(self.steps), 3)

    def holds(self, places, steps):
        answer = places_hold(self.pack, self.floor, places, steps)
        self.assertIs(type(answer), bool)
        return answer

    def test_what_placed_tells_is_taken(self):
        self.assertTrue(self.holds(self.places, self.steps))
        for count in range(len(self.steps)):
            told = placed(self.pack, self.floor, count)
            self.assertTrue(self.holds(told[0], told[1]))

    def test_lists_and_tuples_are_alike(self):
        for kind in (list, tuple):
            self.assertTrue(self.holds(with_kind(self.places, kind), with_kind(self.steps, kind)))
        self.assertTrue(places_hold(Pack(0, [], []), self.floor, (), ()))

    def test_steps_of_another_make(self):
        taken = 0
        for seed in range(30):
            source = random.Random(seed)
            places = cells_by_rows(self.floor)[:7]
            steps = []
            pairs = all_pairs(self.floor)
            for trial in range(60):
                one, other = source.choice(pairs)
                after = stretch_of(self.pack, self.floor, swapped(places, one, other))
                if after < stretch_of(self.pack, self.floor, places):
                    places = swapped(places, one, other)
                    steps.append((one, other, after))
            taken += steps[:1] != self.steps[:1]
            self.assertTrue(self.holds(places, steps))
        self.assertGreater(taken, 20)

    def test_a_stretch_that_is_another(self):
        for number, step in enumerate(self.steps):
            for other in (step[2] - 1, step[2] + 1, 0, -1, 10 ** 30, None, True, str(step[2]), [step[2]]):
                steps = self.steps[:number] + [step[:2] + (other,)] + self.steps[number + 1:]
                self.assertFalse(self.holds(self.places, steps))

    def test_a_step_that_brings_no_less(self):
        places = cells_by_rows(self.floor)[:7]
        before = stretch_of(self.pack, self.floor, places)
        alike = 0
        for one, other in all_pairs(self.floor):
            moved = swapped(places, one, other)
            after = stretch_of(self.pack, self.floor, moved)
            self.assertEqual(self.holds(moved, [(one, other, after)]), after < before)
            alike += after == before and moved != places
        self.assertGreater(alike, 0)

    def test_both_cells_empty(self):
        empty = ((2, 2), (2, 3))
        before = stretch_of(self.pack, self.floor, cells_by_rows(self.floor)[:7])
        for stretch in (before, before - 1, 0):
            self.assertFalse(self.holds(cells_by_rows(self.floor)[:7], [empty + (stretch,)]))
            self.assertFalse(self.holds(self.places, [empty + (stretch,)] + self.steps))

    def test_steps_left_out_or_told_twice(self):
        for number in range(len(self.steps)):
            self.assertFalse(self.holds(self.places, self.steps[:number] + self.steps[number + 1:]))
            self.assertFalse(self.holds(self.places, self.steps[:number + 1] + self.steps[number:]))
        self.assertFalse(self.holds(self.places, []))
        self.assertFalse(self.holds(cells_by_rows(self.floor)[:7], self.steps))

    def test_the_order_of_the_cells(self):
        for number, step in enumerate(self.steps):
            for cells in ((step[1], step[0]), (step[0], step[0]), (step[1], step[1])):
                steps = self.steps[:number] + [cells + (step[2],)] + self.steps[number + 1:]
                self.assertFalse(self.holds(self.places, steps))

    def test_places_exchanged(self):
        for one in range(7):
            for other in range(one):
                places = list(self.places)
                places[one], places[other] = places[other], places[one]
                self.assertFalse(self.holds(places, self.steps))
        free = [cell for cell in cells_by_rows(self.floor) if cell not in self.places][0]
        for number in range(7):
            self.assertFalse(self.holds(self.places[:number] + [free] + self.places[number + 1:], self.steps))
            self.assertFalse(self.holds(self.places[:number] + self.places[number + 1:], self.steps))
        self.assertFalse(self.holds(self.places + [free], self.steps))

    def test_cells_beyond_the_floor(self):
        for cell in ((3, 0), (0, 4), (-1, 0), (0, -1), (10 ** 30, 0), (0, 0, 0), (0,), ()):
            self.assertFalse(self.holds(self.places, [((0, 0), cell, 1)] + self.steps))
            self.assertFalse(self.holds(self.places, [(cell, (2, 3), 1)] + self.steps))
            self.assertFalse(self.holds([cell] + self.places[1:], self.steps))

    def test_wrong_forms(self):
        for strange in STRANGE + (None, [], 0, 1):
            for places in exchanged(self.places, strange):
                if not same_papers(places, self.places):
                    self.assertFalse(self.holds(places, self.steps), places)
            for steps in exchanged(self.steps, strange):
                if not same_papers(steps, self.steps):
                    self.assertFalse(self.holds(self.places, steps), steps)

    def test_nothing_is_changed(self):
        places = with_kind(self.places, list)
        steps = with_kind(self.steps, list)
        self.holds(places, steps)
        self.assertEqual((places, steps), (with_kind(self.places, list), with_kind(self.steps, list)))


if __name__ == "__main__":
    unittest.main()
