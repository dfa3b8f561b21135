"""Rows of bits read to boards, refusals and strands."""

import itertools
import random
import unittest

from bitfloor.bitplay import BitPlayer
from bitfloor.bitwriting import bits_row
from bitfloor.boards import Board, strands_of
from bitfloor.errors import FloorError, NoBits
from bitfloor.floors import Floor, wires_of
from plainboard import PlainBoard, random_boards, random_row
from samples import HAND_BITS, bits_of, led_cases, lists_in

SIZES = (2, 2, 2)
WORDS = ("sign", "length", "floor", "choice", "pad", "drive", "ring")


class BoardTest(unittest.TestCase):
    def assert_refused(self, bits, why):
        for maker in (Board, BitPlayer):
            with self.assertRaises(NoBits, msg=why) as caught:
                maker(bits)
            self.assertIs(type(caught.exception), NoBits)
            self.assertIsInstance(caught.exception, FloorError)
            self.assertEqual(caught.exception.why, why)

    def assert_taken(self, bits):
        self.assertIsInstance(Board(bits), Board)

    def test_fields(self):
        board = Board(HAND_BITS)
        self.assertIsInstance(board.floor, Floor)
        self.assertEqual((board.floor.rows, board.floor.columns, board.floor.tracks), (2, 2, 2))
        self.assertEqual((board.ins, board.outs), (1, 2))
        board = Board(bits_of((3, 1, 5), 2, 6))
        self.assertEqual((board.floor.rows, board.floor.columns, board.floor.tracks), (3, 1, 5))
        self.assertEqual((board.ins, board.outs), (2, 6))

    def test_floors_of_every_size(self):
        for rows, columns, tracks in ((1, 1, 1), (10, 10, 8), (1, 10, 8), (10, 1, 3), (4, 7, 4)):
            board = Board(bits_of((rows, columns, tracks)))
            self.assertEqual((board.floor.rows, board.floor.columns, board.floor.tracks), (rows, columns, tracks))

    def test_signs(self):
        for sign in ("2", " ", "\n", "a", "-", "O", "~"):
            for place in (0, 39, 40, 100, len(HAND_BITS) - 1):
                self.assert_refused(HAND_BITS[:place] + sign + HAND_BITS[place + 1:], "sign")
            self.assert_refused(sign, "sign")
            self.assert_refused(HAND_BITS + sign, "sign")

    def test_length(self):
        for count in (0, 1, 7, 8, 39, 40, 41, len(HAND_BITS) - 1):
            self.assert_refused(HAND_BITS[:count], "length")
        self.assert_refused(HAND_BITS + "0", "length")
        self.assert_refused(HAND_BITS + "1", "length")
        for count in range(40):
            self.assert_refused("0" * count, "length")
            self.assert_refused("1" * count, "length")
        # the whole head of eights of ones asks for many bits
        self.assert_refused("1" * 40, "length")
        self.assert_refused("1" * 20000, "length")

    def test_length_with_a_head_that_is_no_floor(self):
        for sizes in ((0, 0, 0), (0, 3, 2), (3, 0, 2), (3, 3, 0), (11, 2, 2), (2, 11, 2), (2, 2, 9), (12, 12, 9)):
            row = bits_of(sizes)
            self.assert_refused(row, "floor")
            self.assert_refused(row + "0", "length")
            self.assert_refused(row[:-1], "length")

    def test_no_floor(self):
        for sizes in ((0, 1, 1), (1, 0, 1), (1, 1, 0), (0, 0, 0), (11, 1, 1), (1, 11, 1), (1, 1, 9), (255, 1, 1)):
            self.assert_refused(bits_of(sizes), "floor")

    def test_pads_too_few(self):
        for ins in range(9):
            self.assert_taken(bits_of(SIZES, ins, 8 - ins))
            self.assert_refused(bits_of(SIZES, ins, 9 - ins), "floor")
        self.assert_refused(bits_of(SIZES, 255, 0), "floor")
        self.assert_refused(bits_of(SIZES, 0, 255), "floor")
        self.assert_refused(bits_of(SIZES, 128, 128), "floor")

    def test_the_greatest_choice_and_one_beyond(self):
        for tracks in range(1, 9):
            for cell in (0, 3):
                for place in range(4):
                    choices = [0] * place + [4 * tracks]
                    self.assert_taken(bits_of((2, 2, tracks), cells={cell: {"choices": choices}}))
                    choices[-1] += 1
                    self.assert_refused(bits_of((2, 2, tracks), cells={cell: {"choices": choices}}), "choice")
                    choices[-1] = 2 ** len(bin(4 * tracks)[2:]) - 1
                    self.assert_refused(bits_of((2, 2, tracks), cells={cell: {"choices": choices}}), "choice")

    def test_the_greatest_choice_of_a_pad_and_one_beyond(self):
        for tracks in range(1, 9):
            for pad in (0, 1, 7):
                self.assert_taken(bits_of((2, 2, tracks), 1, 1, pads={pad: ((), tracks)}))
                # where the tracks fill the choice's bits there is none beyond
                if len(bin(tracks + 1)) == len(bin(tracks)):
                    self.assert_refused(bits_of((2, 2, tracks), 1, 1, pads={pad: ((), tracks + 1)}), "choice")

    def test_pads_that_drive(self):
        for ins, outs in ((0, 0), (3, 2), (7, 1), (8, 0)):
            for pad in range(8):
                for track in range(2):
                    row = bits_of(SIZES, ins, outs, pads={pad: ((track,), 0)})
                    if pad < ins:
                        self.assert_taken(row)
                    else:
                        self.assert_refused(row, "pad")

    def test_strands_with_two_drivers(self):
        # the wire between cells 0 and 1
        self.assert_taken(bits_of(SIZES, cells={0: {"drives": [(1, 0)]}, 1: {"drives": [(0, 1)]}}))
        self.assert_refused(bits_of(SIZES, cells={0: {"drives": [(1, 0)]}, 1: {"drives": [(0, 0)]}}), "drive")
        # kept or not, and whatever they tell
        self.assert_refused(bits_of(SIZES, cells={0: {"drives": [(1, 0)], "kept": 1}, 1: {"drives": [(0, 0)], "kept": 1}}),
                            "drive")
        # a pad and the cell beside it
        self.assert_refused(bits_of(SIZES, 1, cells={0: {"drives": [(0, 1)]}}, pads={0: ((1,), 0)}), "drive")
        self.assert_taken(bits_of(SIZES, 1, cells={0: {"drives": [(0, 0)]}}, pads={0: ((1,), 0)}))
        # two pads, joined at cell 0: pad 0 is left of it and pad 2 above
        joined = {0: {"joins": [(1, 0, 2)]}}
        self.assert_refused(bits_of(SIZES, 3, cells=joined, pads={0: ((1,), 0), 2: ((1,), 0)}), "drive")
        self.assert_taken(bits_of(SIZES, 3, cells=joined, pads={0: ((1,), 0), 2: ((0,), 0)}))
        self.assert_taken(bits_of(SIZES, 3, pads={0: ((0, 1), 0), 2: ((0, 1), 0)}))

    def test_strands_that_one_cell_drives_at_two_wires(self):
        ring = {0: {"drives": [(1, 0), (3, 0)], "joins": [(0, 1, 3)]}}
        self.assert_taken(bits_of(SIZES, cells=ring))
        around = {0: {"drives": [(1, 0), (3, 0)]}, 1: {"joins": [(0, 0, 3)]}, 3: {"joins": [(0, 0, 2)]},
                  2: {"joins": [(0, 1, 2)]}}
        self.assert_taken(bits_of(SIZES, cells=around))
        around[3]["drives"] = [(0, 0)]
        self.assert_refused(bits_of(SIZES, cells=around), "drive")
        around[3]["drives"] = [(0, 1)]
        self.assert_taken(bits_of(SIZES, cells=around))

    def test_rings_of_one(self):
        for side in range(4):
            for track in range(2):
                for place in range(4):
                    choices = [0] * place + [1 + 2 * side + track]
                    cell = {"drives": [(side, track)], "choices": choices, "first": 1}
                    self.assert_refused(bits_of(SIZES, cells={2: cell}), "ring")
                    cell["kept"] = 1
                    self.assert_taken(bits_of(SIZES, cells={2: cell}))
                    cell["kept"] = 0
                    cell["choices"] = [0] * place + [2 + 2 * side - track]
                    self.assert_taken(bits_of(SIZES, cells={2: cell}))

    def test_a_ring_of_one_through_joined_wires(self):
        # down from cell 0, and back to it from the right
        cells = {0: {"drives": [(3, 0)], "choices": [0, 3]}, 2: {"joins": [(0, 1, 2)]}, 3: {"joins": [(0, 0, 2)]},
                 1: {"joins": [(0, 0, 3)]}}
        self.assert_refused(bits_of(SIZES, cells=cells), "ring")
        self.assert_taken(bits_of(SIZES, cells={**cells, 1: {}}))
        cells[0]["kept"] = 1
        self.assert_taken(bits_of(SIZES, cells=cells))

    def ring(self, kept):
        """Cells 0, 1, 3 and 2 of a floor of two rows, each driving the next on track 1; those in kept are kept."""
        cells = {0: {"drives": [(1, 1)], "choices": [8]}, 1: {"drives": [(3, 1)], "choices": [0, 2]},
                 3: {"drives": [(0, 1)], "choices": [0, 0, 6]}, 2: {"drives": [(2, 1)], "choices": [0, 0, 0, 4]}}
        for number in kept:
            cells[number]["kept"] = 1
        return cells

    def test_rings_of_more(self):
        self.assert_refused(bits_of(SIZES, cells=self.ring(())), "ring")
        for count in range(1, 5):
            for kept in itertools.combinations((0, 1, 2, 3), count):
                self.assert_taken(bits_of(SIZES, cells=self.ring(kept)))
        for number in range(4):
            cells = self.ring(())
            cells[number]["choices"] = [0]
            self.assert_taken(bits_of(SIZES, cells=cells))
            cells = self.ring(())
            cells[number]["drives"] = []
            self.assert_taken(bits_of(SIZES, cells=cells))

    def test_rings_of_two(self):
        cells = {0: {"drives": [(1, 0)], "choices": [4]}, 1: {"drives": [(0, 1)], "choices": [1]}}
        self.assert_refused(bits_of(SIZES, cells=cells), "ring")
        for kept in ((1, 0), (0, 1), (1, 1)):
            for number in range(2):
                cells[number]["kept"] = kept[number]
            self.assert_taken(bits_of(SIZES, cells=cells))

    def test_a_ring_beside_others_and_what_it_leads_to(self):
        cells = self.ring(())
        cells[3]["drives"].append((1, 0))
        self.assert_refused(bits_of((2, 3, 2), cells={number + number // 2: cell for number, cell in cells.items()}), "ring")

    def test_rings_whatever_the_tables(self):
        for table in ("0" * 16, "1" * 16, "01" * 8, "1" + "0" * 15):
            cells = self.ring(())
            for cell in cells.values():
                cell["table"] = table
            self.assert_refused(bits_of(SIZES, cells=cells), "ring")

    def test_choices_of_pads_that_are_no_outs(self):
        for pad in (0, 1, 5):
            row = bits_of(SIZES, 1, 1, pads={pad: ((), 2)})
            self.assert_taken(row)
        # in pad 0 and pad 5 hear something, but only pad 1 is an out
        row = bits_of(SIZES, 1, 1, cells={0: {"joins": [(0, 0, 3)]}, 2: {"joins": [(0, 0, 2)]}},
                      pads={0: ((0,), 1), 1: ((), 1), 5: ((), 2)})
        self.assertEqual(BitPlayer(row).beat([1]), [1])

    def test_boards_of_ways(self):
        for pack, floor, places, ways in led_cases(30):
            board = Board(bits_row(pack, floor, places, ways))
            self.assertEqual((board.ins, board.outs), (pack.ins, len(pack.outs)))

    def test_nothing_is_kept_of_another_board(self):
        one = Board(HAND_BITS)
        with self.assertRaises(NoBits):
            Board(HAND_BITS[:-1])
        Board(bits_of((3, 3, 3), 2, 2))
        self.assertEqual((one.ins, one.outs, one.floor.rows), (1, 2, 2))


class FirstDueTest(unittest.TestCase):
    """Each two words together: the first due one is told."""

    def row(self, faults):
        cells = {}
        pads = {}
        ins = 200 if "floor" in faults else 1
        if "choice" in faults:
            cells[3] = {"choices": [0, 9]}
        if "pad" in faults:
            pads[6] = ((1,), 0)
        if "drive" in faults:
            cells[0] = {"drives": [(1, 0)]}
            cells[1] = {"drives": [(0, 0)]}
        if "ring" in faults:
            cells[2] = {"drives": [(1, 1)], "choices": [4]}
        row = bits_of(SIZES, ins, 1, cells, pads)
        if "length" in faults:
            row = row + "0" if "sign" in faults else row[:-1]
        if "sign" in faults:
            row = row[:-3] + "x" + row[-2:]
        return row

    def test_all_together(self):
        for count in range(8):
            for faults in itertools.combinations(WORDS, count):
                row = self.row(faults)
                if not faults:
                    Board(row)
                    continue
                with self.assertRaises(NoBits) as caught:
                    Board(row)
                self.assertEqual(caught.exception.why, faults[0], faults)
                self.assertEqual(PlainBoard(row).why, faults[0])

    def test_a_choice_of_a_pad_ahead_of_a_cells_drive(self):
        with self.assertRaises(NoBits) as caught:
            Board(bits_of(SIZES, cells={0: {"drives": [(1, 0)]}, 1: {"drives": [(0, 0)]}}, pads={7: ((0,), 3)}))
        self.assertEqual(caught.exception.why, "choice")


class ManyRowsTest(unittest.TestCase):
    def why(self, bits):
        try:
            Board(bits)
        except NoBits as refusal:
            return refusal.why
        return None

    def test_random_rows(self):
        told = []
        for seed in range(400):
            bits = random_row(seed, (0.03, 0.08, 0.15)[seed % 3])
            told.append(self.why(bits))
            self.assertEqual(told[-1], PlainBoard(bits).why)
        for word in ("drive", "ring", None):
            self.assertGreater(told.count(word), 20, word)

    def test_rows_with_bits_turned_over(self):
        told = []
        for seed, (bits, board) in enumerate(random_boards(60)):
            source = random.Random(seed)
            for turn in range(10):
                bent = bits
                for count in range(source.choice((1, 1, 2))):
                    place = source.randrange(40 if source.random() < 0.1 else 0, len(bits))
                    bent = bent[:place] + ("1" if bent[place] == "0" else "0") + bent[place + 1:]
                told.append(self.why(bent))
                self.assertEqual(told[-1], PlainBoard(bent).why)
        for word in WORDS[1:] + (None,):
            if word != "floor":
                self.assertGreater(told.count(word), 4, word)


class StrandsTest(unittest.TestCase):
    def test_by_hand(self):
        joined = [[("h", 0, -1, 0), ("h", 0, 0, 0), ("v", -1, 0, 0), ("v", 0, 1, 0)],
                  [("h", 1, -1, 1), ("h", 1, 0, 1)], [("h", 1, 0, 0), ("v", 0, 0, 0)]]
        others = [[wire] for wire in wires_of(Floor(2, 2, 2)) if not any(wire in strand for strand in joined)]
        told = strands_of(Board(HAND_BITS))
        self.assertEqual(told, sorted(joined + others))
        self.assertEqual(told[0], joined[0])

    def test_no_joins(self):
        floor = Floor(3, 4, 2)
        self.assertEqual(strands_of(Board(bits_of((3, 4, 2)))), [[wire] for wire in wires_of(floor)])

    def test_all_joined(self):
        pairs = [(low, high) for low in range(4) for high in range(low + 1, 4)]
        cells = {number: {"joins": [(track, low, high) for track in range(2) for low, high in pairs]}
                 for number in range(100)}
        told = strands_of(Board(bits_of((10, 10, 2), cells=cells)))
        wires = wires_of(Floor(10, 10, 2))
        self.assertEqual(told, [[wire for wire in wires if wire[3] == track] for track in range(2)])

    def test_many(self):
        for bits, board in random_boards(60, 1000):
            told = strands_of(Board(bits))
            self.assertEqual(told, board.strands)
            self.assertEqual(sorted(sum(told, [])), wires_of(Floor(*board.sizes)))

    def test_what_is_told_is_the_askers_own(self):
        board = Board(HAND_BITS)
        told = strands_of(board)
        found = lists_in(told)
        self.assertEqual(len({id(part) for part in found}), len(told) + 1)
        self.assertTrue(all(type(wire) is tuple for strand in told for wire in strand))
        for part in found:
            part.clear()
        self.assertEqual(strands_of(board), strands_of(Board(HAND_BITS)))
        self.assertEqual(len(strands_of(board)), 24 - 3 - 1 - 1)


if __name__ == "__main__":
    unittest.main()
