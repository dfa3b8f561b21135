"""Rows of bits for packs, places and ways."""

import random
import unittest

from bitfloor.bitwriting import bits_row
from bitfloor.floors import Floor
from bitfloor.packs import Pack
from bitfloor.signals import signals_of
from samples import HAND_BITS, HAND_FLOOR, HAND_PACK, HAND_PLACES, HAND_WAYS, bits_of, led_cases, with_kind


def plain_table(block):
    """The sixteen bits by what each source has at each row of four bits."""
    bits = ""
    for number in range(16):
        fed = [number // 2 ** place % 2 for place in range(4)]
        bits += str(block[1] // 2 ** sum(fed[place] * 2 ** place for place in range(len(block[0]))) % 2)
    return bits


def plain_row(pack, floor, places, ways):
    """The row by the document's words."""
    cells = {}
    pads = {}
    for block, place in zip(pack.blocks, places):
        cells[place[0] * floor.columns + place[1]] = {
            "table": plain_table(block), "kept": block[2], "first": block[3], "choices": [0, 0, 0, 0], "drives": [],
        }

    def side_of(wire, box):
        if wire[0] == "h":
            return 0 if wire[2] == box[1] - 1 else 1
        return 2 if wire[1] == box[0] - 1 else 3

    for (source, sinks), (drives, joins, taps) in zip(signals_of(pack), ways):
        for wire in drives:
            if source[0] == "in":
                pads.setdefault(source[1], ([], 0))[0].append(wire[3])
            else:
                box = places[source[1]]
                cells[box[0] * floor.columns + box[1]]["drives"].append((side_of(wire, box), wire[3]))
        for box, low, high, track in joins:
            cell = cells.setdefault(box[0] * floor.columns + box[1], {})
            cell.setdefault("joins", []).append((track, low, high))
        for sink, wire in zip(sinks, taps):
            if sink[0] == "out":
                pads[pack.ins + sink[1]] = ([], 1 + wire[3])
            else:
                box = places[sink[1]]
                choices = cells[box[0] * floor.columns + box[1]]["choices"]
                choices[sink[2]] = 1 + side_of(wire, box) * floor.tracks + wire[3]
    return bits_of((floor.rows, floor.columns, floor.tracks), pack.ins, len(pack.outs), cells, pads)


class BitsRowTest(unittest.TestCase):
    def test_by_hand(self):
        row = bits_row(HAND_PACK, HAND_FLOOR, HAND_PLACES, HAND_WAYS)
        self.assertIs(type(row), str)
        self.assertEqual(row, HAND_BITS)
        self.assertEqual(len(row), 40 + 4 * 54 + 8 * 4)

    def test_lists_and_tuples_are_alike(self):
        for kind in (list, tuple):
            told = bits_row(HAND_PACK, HAND_FLOOR, with_kind(HAND_PLACES, kind), with_kind(HAND_WAYS, kind))
            self.assertEqual(told, HAND_BITS)

    def test_nothing_on_floors_of_every_number_of_tracks(self):
        for tracks in range(1, 9):
            row = bits_row(Pack(0, [], []), Floor(1, 2, tracks), [], [])
            cell = 16 + 2 + 4 * len(bin(4 * tracks)[2:]) + 4 * tracks + 6 * tracks
            pad = tracks + len(bin(tracks)[2:])
            head = "00000001" + "00000010" + bin(tracks)[2:].rjust(8, "0") + "0" * 16
            self.assertEqual(row, head + "0" * (2 * cell + 6 * pad))

    def test_choices_of_1_2_4_and_8_tracks(self):
        # a block that hears itself by the last wire of all, and whose pad below hears it there
        for tracks, choice, pad_choice in ((1, "100", "1"), (2, "1000", "10"), (4, "10000", "100"), (8, "100000", "1000"),
                                           (3, "1100", "11"), (7, "11100", "111")):
            pack = Pack(3, [([("block", 0)], 1, 1, 1)], [("block", 0)])
            wire = ("v", 0, 0, tracks - 1)
            row = bits_row(pack, Floor(1, 1, tracks), [(0, 0)], [([wire], [], [wire, wire])])
            wide = len(choice)
            cell = "10" * 8 + "11" + choice + "0" * 3 * wide + "0" * (4 * tracks - 1) + "1" + "0" * 6 * tracks
            pads = "0" * 3 * (tracks + len(pad_choice)) + "0" * tracks + pad_choice
            self.assertEqual(row[40:], cell + pads)

    def test_tables_of_0_to_4_sources(self):
        for bits, count, table in ((0, 0, "0" * 16), (1, 0, "1" * 16), (1, 1, "10" * 8), (2, 1, "01" * 8),
                                   (6, 2, "0110" * 4), (8, 2, "0001" * 4), (150, 3, "01101001" * 2),
                                   (2 ** 15 + 2, 4, "0100000000000001"), (2 ** 16 - 1, 4, "1" * 16)):
            sources = [("in", number) for number in range(count)]
            pack = Pack(4, [(sources, bits, 0, 0)], [])
            ways = []
            # pads left, above, right and below in order, each with its own wire
            for wire in (("h", 0, -1, 0), ("v", -1, 0, 0), ("h", 0, 0, 0), ("v", 0, 0, 0))[:count]:
                ways.append(([wire], [], [wire]))
            row = bits_row(pack, Floor(1, 1, 1), [(0, 0)], ways)
            choices = "".join(("001", "011", "010", "100")[:count]) + "000" * (4 - count)
            drives = "".join("1" if pad < count else "0" for pad in range(4))
            self.assertEqual(row[40:40 + 16 + 2 + 12], table + "00" + choices)
            self.assertEqual(row[40 + 18 + 12:], "0000" + "000000" + "".join(drive + "0" for drive in drives))

    def test_kept_and_first(self):
        for kept, first in ((0, 0), (1, 0), (1, 1)):
            row = bits_row(Pack(0, [([], 1, kept, first)], []), Floor(1, 1, 1), [(0, 0)], [])
            self.assertEqual(row[40:58], "1" * 16 + str(kept) + str(first))

    def test_two_drives_and_two_tracks_of_one_way(self):
        pack = Pack(1, [([("in", 0), ("in", 0), ("block", 0)], 1, 1, 0)], [("block", 0)])
        ways = [([("h", 0, -1, 1), ("h", 0, -1, 0), ("h", 0, -1, 0)], [((0, 0), 0, 1, 1)],
                 [("h", 0, 0, 1), ("h", 0, -1, 0)]),
                ([("v", -1, 0, 0), ("v", 0, 0, 1)], [((0, 0), 2, 3, 1)], [("v", 0, 0, 1), ("v", -1, 0, 1)])]
        row = bits_row(pack, Floor(1, 1, 2), [(0, 0)], ways)
        # right is side 1, down side 3: 1 + 1 * 2 + 1, 1 + 0, 1 + 3 * 2 + 1
        choices = "0100" + "0001" + "1000" + "0000"
        self.assertEqual(row[40:], "10000000" * 2 + "10" + choices + "00001001" + "000000" + "100001"
                         + "1100" + "0010" + "0000" + "0000")

    def test_many(self):
        for pack, floor, places, ways in led_cases(60):
            self.assertEqual(bits_row(pack, floor, places, ways), plain_row(pack, floor, places, ways))

    def test_the_places_of_empty_cells(self):
        for seed in range(10):
            cell = random.Random(seed).randrange(12)
            row = bits_row(Pack(0, [([], 1, 0, 0)], []), Floor(3, 4, 1), [(cell // 4, cell % 4)], [])
            size = 16 + 2 + 12 + 4 + 6
            self.assertEqual(row[40:], "0" * cell * size + "1" * 16 + "0" * (12 * size - cell * size - 16) + "0" * 28)

    def test_nothing_is_changed(self):
        ways = with_kind(HAND_WAYS, list)
        places = with_kind(HAND_PLACES, list)
        bits_row(HAND_PACK, HAND_FLOOR, places, ways)
        self.assertEqual((places, ways), (with_kind(HAND_PLACES, list), with_kind(HAND_WAYS, list)))


if __name__ == "__main__":
    unittest.main()
