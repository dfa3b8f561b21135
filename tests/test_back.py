"""Tables read back from rows of bits."""

import unittest

from bitfloor.back import read_back
from bitfloor.bitplay import BitPlayer
from bitfloor.bitwriting import bits_row
from bitfloor.errors import NoBits
from bitfloor.tableplay import TablePlayer
from bitfloor.tables import Tables
from plainboard import PlainBoard, random_boards
from samples import HAND_BITS, bits_of, led_cases, lists_in, plain_bits, random_bits

SIZES = (2, 2, 2)


def cell_bits(board, row, held):
    """What each cell's table tells for a row and what the kept cells hold."""
    kept = [number for number, cell in enumerate(board.cells) if cell[1]]
    has = dict(zip(kept, held))

    def tells(number):
        fed = [bit(source) for source in board.sources[number]]
        return int(board.cells[number][0][sum(value * 2 ** place for place, value in enumerate(fed))])

    def bit(source):
        if source is None:
            return 0
        if source[0] == "in":
            return row[source[1]]
        return has[source[1]] if source[1] in has else tells(source[1])

    return [tells(number) for number in range(len(board.cells))]


class ReadBackTest(unittest.TestCase):
    def assert_read(self, bits, seed):
        told = read_back(bits)
        self.assertIs(type(told), tuple)
        tables, cells = told
        self.assertIsInstance(tables, Tables)
        self.assertIs(type(cells), list)
        board = PlainBoard(bits)
        self.assertEqual(len(cells), len(tables.tables))
        self.assertEqual((tables.ins, len(tables.outs)), (board.ins, board.outs))
        self.assertEqual([first for first, place in tables.keeps], [cell[2] for cell in board.cells if cell[1]])
        one = TablePlayer(tables)
        other = BitPlayer(bits)
        for row in random_bits(seed, 8, board.ins):
            held = other.held()
            self.assertEqual(one.held(), held)
            table_bits = plain_bits(tables, row, held)
            by_cells = cell_bits(board, row, held)
            for cell, bit in zip(cells, table_bits):
                if cell is None:
                    self.assertEqual(bit, 0)
                else:
                    self.assertIs(type(cell), tuple)
                    self.assertEqual(bit, by_cells[cell[0] * board.sizes[1] + cell[1]])
            self.assertEqual(one.beat(row), other.beat(row))
        self.assertEqual(one.held(), other.held())
        found = [cell for cell in cells if cell is not None]
        self.assertEqual(len(set(found)), len(found))
        return told

    def test_by_hand(self):
        tables, cells = self.assert_read(HAND_BITS, 1)
        self.assertEqual(cells, [(0, 0), (1, 1)])
        self.assertEqual(tables.outs, (("keep", 0), ("in", 0)))
        self.assertEqual(tables.keeps, ((1, ("table", 1)),))

    def test_boards_of_ways(self):
        for number, (pack, floor, places, ways) in enumerate(led_cases(60)):
            self.assert_read(bits_row(pack, floor, places, ways), number)

    def test_many_boards(self):
        silent = 0
        for number, (bits, board) in enumerate(random_boards(150, 6000)):
            told = self.assert_read(bits, number)
            silent += None in told[1]
        self.assertGreater(silent, 20)

    def test_an_empty_board(self):
        tables, cells = self.assert_read(bits_of(SIZES, 3), 1)
        self.assertEqual((tables.ins, tables.keeps, tables.outs), (3, (), ()))

    def test_outs_of_none(self):
        # one out chooses nothing, one a wire that nobody drives
        tables, cells = self.assert_read(bits_of(SIZES, 0, 2, pads={1: ((), 2)}), 1)
        self.assertEqual(TablePlayer(tables).beat([]), [0, 0])
        self.assertIn(None, cells)
        for out in tables.outs:
            self.assertIsNone(cells[out[1]])

    def test_undriven_choices(self):
        # a kept cell that takes 1 where its second choice, which nobody drives, has 0
        for table, bit in (("1100" * 4, 1), ("0011" * 4, 0)):
            cell = {"table": table, "kept": 1, "choices": [1, 5], "drives": [(3, 0)]}
            bits = bits_of(SIZES, 1, 1, {0: cell, 2: {"joins": [(0, 0, 2)]}}, {0: ((0,), 0), 1: ((), 1)})
            tables, cells = self.assert_read(bits, 1)
            player = TablePlayer(tables)
            self.assertEqual([player.beat([1]) for count in range(3)], [[0], [bit], [bit]])

    def test_a_cell_that_hears_one_cell_twice(self):
        for table in ("0110" * 4, "1001" * 4, "0100" * 4, "0001" * 4):
            cells = {0: {"table": "10" * 8, "choices": [1], "drives": [(1, 0)]},
                     1: {"table": table, "choices": [1, 1], "drives": [(0, 1)]}}
            cells[0]["joins"] = [(1, 1, 2)]
            # pad 0 is the in, left of cell 0, and pad 2 above it the out
            self.assert_read(bits_of(SIZES, 1, 2, cells, {0: ((0,), 0), 2: ((), 2)}), 3)

    def test_kept_cells_row_by_row(self):
        cells = {number: {"kept": 1, "first": number % 2, "table": "1" * 16} for number in (5, 0, 4, 3)}
        tables, found = self.assert_read(bits_of((2, 3, 1), cells=cells), 1)
        self.assertEqual([first for first, place in tables.keeps], [0, 1, 0, 1])
        self.assertEqual([found[place[1]] for first, place in tables.keeps], [(0, 0), (1, 0), (1, 1), (1, 2)])

    def test_outs_fed_by_ins_and_kept_cells(self):
        cells = {0: {"joins": [(0, 0, 2)], "kept": 1, "first": 1, "drives": [(2, 1)]}}
        bits = bits_of((1, 1, 2), 1, 2, cells, {0: ((0,), 0), 1: ((), 1), 2: ((), 0)})
        tables, found = self.assert_read(bits, 1)
        self.assertEqual(TablePlayer(tables).beat([1]), [1, 0])
        bits = bits_of((1, 1, 2), 1, 1, cells, {0: ((0,), 0), 1: ((), 2)})
        self.assertEqual(TablePlayer(self.assert_read(bits, 1)[0]).beat([0]), [1])

    def test_a_long_row_of_cells(self):
        # each cell of a row of ten hears the one left of it
        cells = {number: {"table": "10" * 8, "choices": [1], "drives": [(1, 0)]} for number in range(10)}
        bits = bits_of((1, 10, 1), 1, 11, cells, {0: ((0,), 0), 11: ((), 1)})
        tables, found = self.assert_read(bits, 2)
        self.assertEqual(TablePlayer(tables).beat([1]), [0] * 10 + [1])

    def test_refused_as_boards(self):
        rows = ((HAND_BITS[:-1], "length"), ("x", "sign"), (bits_of((0, 1, 1)), "floor"),
                (bits_of(SIZES, cells={0: {"choices": [9]}}), "choice"), (bits_of(SIZES, pads={0: ((0,), 0)}), "pad"),
                (bits_of(SIZES, cells={0: {"drives": [(1, 0)]}, 1: {"drives": [(0, 0)]}}), "drive"),
                (bits_of(SIZES, cells={0: {"drives": [(1, 0)], "choices": [3]}}), "ring"))
        for bits, why in rows:
            with self.assertRaises(NoBits) as caught:
                read_back(bits)
            self.assertEqual(caught.exception.why, why)

    def test_what_is_told_is_the_askers_own(self):
        told = read_back(HAND_BITS)
        self.assertEqual(len(lists_in(told)), 1)
        told[1].clear()
        self.assertEqual(len(read_back(HAND_BITS)[1]), 2)


if __name__ == "__main__":
    unittest.main()
