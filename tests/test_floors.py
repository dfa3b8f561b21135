"""Floors, their boxes, wires and pads."""

import unittest

from bitfloor.errors import FloorError, NoFloor, OutOfFloor
from bitfloor.floors import Floor, boxes_at, pad_wires, pads_of, side_wire, wires_of

SIZES = [(rows, columns, tracks) for rows in (1, 2, 3, 10) for columns in (1, 2, 4, 10) for tracks in (1, 3, 8)]
STRANGE = (-1, 10 ** 30, -10 ** 30, True, False, None, "0", "", [0], (0,), [], ())


def floors():
    return [Floor(rows, columns, tracks) for rows, columns, tracks in SIZES]


def touched(wire):
    """The two spots at a wire's ends."""
    word, row, column, track = wire
    return [(row, column), (row, column + 1)] if word == "h" else [(row, column), (row + 1, column)]


class FloorTest(unittest.TestCase):
    def test_sizes(self):
        for rows in range(1, 11):
            for columns in range(1, 11):
                for tracks in range(1, 9):
                    floor = Floor(rows, columns, tracks)
                    self.assertEqual((floor.rows, floor.columns, floor.tracks), (rows, columns, tracks))

    def test_sizes_beyond(self):
        for rows, columns, tracks in ((0, 1, 1), (1, 0, 1), (1, 1, 0), (11, 1, 1), (1, 11, 1), (1, 1, 9), (11, 10, 8),
                                      (10, 11, 8), (10, 10, 9), (-1, 1, 1), (1, -1, 1), (1, 1, -1), (0, 0, 0)):
            with self.assertRaises(NoFloor) as caught:
                Floor(rows, columns, tracks)
            self.assertIs(type(caught.exception), NoFloor)
            self.assertIsInstance(caught.exception, FloorError)

    def test_sizes_that_are_no_numbers(self):
        for strange in STRANGE:
            for sizes in ((strange, 1, 1), (1, strange, 1), (1, 1, strange)):
                with self.assertRaises(NoFloor):
                    Floor(*sizes)


class SideTest(unittest.TestCase):
    def test_by_hand(self):
        floor = Floor(2, 3, 2)
        self.assertEqual([side_wire(floor, (0, 0), side, 0) for side in range(4)],
                         [("h", 0, -1, 0), ("h", 0, 0, 0), ("v", -1, 0, 0), ("v", 0, 0, 0)])
        self.assertEqual([side_wire(floor, (1, 2), side, 1) for side in range(4)],
                         [("h", 1, 1, 1), ("h", 1, 2, 1), ("v", 0, 2, 1), ("v", 1, 2, 1)])

    def test_every_box_side_and_track(self):
        for floor in floors():
            wires = wires_of(floor)
            for row in range(floor.rows):
                for column in range(floor.columns):
                    for track in range(floor.tracks):
                        sides = [side_wire(floor, (row, column), side, track) for side in range(4)]
                        self.assertTrue(all(wire in wires and wire[3] == track for wire in sides))
                        self.assertEqual([wire[0] for wire in sides], ["h", "h", "v", "v"])
                        others = [(row, column - 1), (row, column + 1), (row - 1, column), (row + 1, column)]
                        for wire, other in zip(sides, others):
                            self.assertEqual(sorted(touched(wire)), sorted([(row, column), other]))
                            self.assertIn((row, column), boxes_at(floor, wire))

    def test_neighbours_share_a_wire(self):
        floor = Floor(3, 3, 2)
        for track in range(2):
            self.assertEqual(side_wire(floor, (1, 0), 1, track), side_wire(floor, (1, 1), 0, track))
            self.assertEqual(side_wire(floor, (0, 2), 3, track), side_wire(floor, (1, 2), 2, track))

    def test_what_is_beyond(self):
        for floor in floors():
            boxes = [(-1, 0), (0, -1), (floor.rows, 0), (0, floor.columns), (floor.rows, floor.columns), (-1, -1)]
            calls = [(box, 0, 0) for box in boxes]
            calls += [((0, 0), side, 0) for side in (4, 5) + STRANGE]
            calls += [((0, 0), 0, track) for track in (floor.tracks, floor.tracks + 1) + STRANGE]
            calls += [((strange, 0), 0, 0) for strange in STRANGE] + [((0, strange), 0, 0) for strange in STRANGE]
            calls += [(box, 0, 0) for box in STRANGE + ((0, 0, 0), (0,), 0, "00")]
            for box, side, track in calls:
                with self.assertRaises(OutOfFloor, msg=str((box, side, track))):
                    side_wire(floor, box, side, track)


class PadTest(unittest.TestCase):
    def test_by_hand(self):
        floor = Floor(2, 3, 2)
        spots = [(0, -1), (1, -1), (-1, 0), (-1, 1), (-1, 2), (0, 3), (1, 3), (2, 0), (2, 1), (2, 2)]
        self.assertEqual(pads_of(floor), spots)
        self.assertEqual(pad_wires(floor, 0), [("h", 0, -1, 0), ("h", 0, -1, 1)])
        self.assertEqual(pad_wires(floor, 1), [("h", 1, -1, 0), ("h", 1, -1, 1)])
        self.assertEqual(pad_wires(floor, 2), [("v", -1, 0, 0), ("v", -1, 0, 1)])
        self.assertEqual(pad_wires(floor, 4), [("v", -1, 2, 0), ("v", -1, 2, 1)])
        self.assertEqual(pad_wires(floor, 5), [("h", 0, 2, 0), ("h", 0, 2, 1)])
        self.assertEqual(pad_wires(floor, 6), [("h", 1, 2, 0), ("h", 1, 2, 1)])
        self.assertEqual(pad_wires(floor, 7), [("v", 1, 0, 0), ("v", 1, 0, 1)])
        self.assertEqual(pad_wires(floor, 9), [("v", 1, 2, 0), ("v", 1, 2, 1)])
        one = Floor(1, 1, 1)
        self.assertEqual(pads_of(one), [(0, -1), (-1, 0), (0, 1), (1, 0)])
        self.assertEqual([pad_wires(one, pad) for pad in range(4)],
                         [[("h", 0, -1, 0)], [("v", -1, 0, 0)], [("h", 0, 0, 0)], [("v", 0, 0, 0)]])

    def test_the_wires_that_end_at_each_pad(self):
        for floor in floors():
            pads = pads_of(floor)
            self.assertEqual(len(pads), 2 * (floor.rows + floor.columns))
            self.assertEqual(len(set(pads)), len(pads))
            ended = []
            for pad, spot in enumerate(pads):
                wires = pad_wires(floor, pad)
                self.assertEqual([wire[3] for wire in wires], list(range(floor.tracks)))
                for wire in wires:
                    self.assertIn(spot, touched(wire))
                    self.assertEqual(len(boxes_at(floor, wire)), 1)
                ended.extend(wires)
            alone = [wire for wire in wires_of(floor) if len(boxes_at(floor, wire)) == 1]
            self.assertEqual(sorted(ended), alone)

    def test_what_is_beyond(self):
        for floor in floors():
            for pad in (2 * (floor.rows + floor.columns), 99) + STRANGE:
                with self.assertRaises(OutOfFloor):
                    pad_wires(floor, pad)


class WiresTest(unittest.TestCase):
    def test_by_hand(self):
        self.assertEqual(wires_of(Floor(1, 1, 1)), [("h", 0, -1, 0), ("h", 0, 0, 0), ("v", -1, 0, 0), ("v", 0, 0, 0)])
        self.assertEqual(wires_of(Floor(1, 2, 1)), [("h", 0, -1, 0), ("h", 0, 0, 0), ("h", 0, 1, 0), ("v", -1, 0, 0),
                                                    ("v", -1, 1, 0), ("v", 0, 0, 0), ("v", 0, 1, 0)])

    def test_all_wires_rising(self):
        for floor in floors():
            wires = wires_of(floor)
            told = {("h", row, column, track) for row in range(floor.rows) for column in range(-1, floor.columns)
                    for track in range(floor.tracks)}
            told |= {("v", row, column, track) for row in range(-1, floor.rows) for column in range(floor.columns)
                     for track in range(floor.tracks)}
            self.assertEqual(wires, sorted(told))

    def test_the_boxes_that_a_wire_touches(self):
        floor = Floor(2, 2, 1)
        told = [boxes_at(floor, ("h", 0, column, 0)) for column in (-1, 0, 1)]
        self.assertEqual(told, [[(0, 0)], [(0, 0), (0, 1)], [(0, 1)]])
        told = [boxes_at(floor, ("v", row, 1, 0)) for row in (-1, 0, 1)]
        self.assertEqual(told, [[(0, 1)], [(0, 1), (1, 1)], [(1, 1)]])
        for floor in floors():
            for wire in wires_of(floor):
                boxes = [spot for spot in touched(wire)
                         if 0 <= spot[0] < floor.rows and 0 <= spot[1] < floor.columns]
                self.assertEqual(boxes_at(floor, wire), boxes)

    def test_what_is_beyond(self):
        for floor in floors():
            rows, columns, tracks = floor.rows, floor.columns, floor.tracks
            wires = [("h", -1, 0, 0), ("h", rows, 0, 0), ("h", 0, -2, 0), ("h", 0, columns, 0), ("h", 0, 0, -1),
                     ("h", 0, 0, tracks), ("v", -2, 0, 0), ("v", rows, 0, 0), ("v", 0, -1, 0), ("v", 0, columns, 0),
                     ("v", 0, 0, -1), ("v", 0, 0, tracks), ("x", 0, 0, 0), ("", 0, 0, 0), ("hv", 0, 0, 0), (0, 0, 0, 0),
                     ("h", 0, 0), ("h", 0, 0, 0, 0), ("h",), ("h", True, 0, 0), ("h", 0, False, 0), ("h", 0, 0, False),
                     ("h", "0", 0, 0), ("h", 0, None, 0), ("h", 0, 0, [0]), (["h"], 0, 0, 0), "h000"]
            for wire in wires + list(STRANGE):
                with self.assertRaises(OutOfFloor, msg=str(wire)):
                    boxes_at(floor, wire)


class OwnTest(unittest.TestCase):
    def test_what_is_told_is_the_askers_own(self):
        floor = Floor(2, 2, 2)
        for asked in (lambda: pads_of(floor), lambda: pad_wires(floor, 1), lambda: wires_of(floor),
                      lambda: boxes_at(floor, ("h", 0, 0, 0))):
            told = asked()
            again = asked()
            self.assertEqual((type(told), told), (list, again))
            told.clear()
            self.assertEqual(asked(), again)
            self.assertTrue(all(type(part) is tuple for part in again))


if __name__ == "__main__":
    unittest.main()
