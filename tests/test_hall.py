"""From text to answer."""

import unittest

from bitfloor.boards import Board
from bitfloor.errors import FloorError, NoBits, NoFloor, NoRoom, NoSense, NoText, NoWays
from bitfloor.floors import Floor
from bitfloor.hall import bits_text, played_text
from bitfloor.making import made_whole
from bitfloor.raising import bits_of_row
from bitfloor.reading import read_modules
from bitfloor.scene import Scene
from bitfloor.sense import faces
from samples import HAND_BITS, TextMaker, bits_of
from wholetexts import COUNTER, GREAT, NO_CHANGE, NO_INS, TEXTS, USED, WIDE

FEW = "module few\nin a 2\nkeep k 1 1\nnext k (xor k (part a 0 1))\nout o (and k (part a 1 1))\nend"


def written(bits):
    return "".join(str(bit) for bit in bits)


def scene_text(text, rows):
    """What the scene of a text tells for rows of values, as rows of bits."""
    modules = read_modules(text)
    out_faces = faces(modules)[1]
    scene = Scene(modules)
    return "\n".join(written(bits_of_row(out_faces, scene.beat(row))) for row in rows)


def rows_text(text, rows):
    in_faces = faces(read_modules(text))[0]
    return "\n".join(written(bits_of_row(in_faces, row)) for row in rows)


class BitsTextTest(unittest.TestCase):
    def refusal(self, *things):
        with self.assertRaises(FloorError) as caught:
            bits_text(*things)
        return caught.exception

    def test_what_made_whole_tells(self):
        for text in (COUNTER, NO_INS, FEW):
            bits = bits_text(text, 6, 5, 7)
            self.assertIs(type(bits), str)
            self.assertEqual(bits, made_whole(text, Floor(6, 5, 7), 100, 100)[-1])
            board = Board(bits)
            self.assertEqual((board.floor.rows, board.floor.columns, board.floor.tracks), (6, 5, 7))

    def test_a_hundred_steps(self):
        made = [made_whole(GREAT, Floor(10, 10, 8), most, 100) for most in (99, 100, 101)]
        self.assertEqual([len(whole[10]) for whole in made], [99, 100, 101])
        self.assertEqual([bits_text(GREAT, 10, 10, 8) == whole[-1] for whole in made], [False, True, False])

    def test_no_floor(self):
        for sizes in ((0, 1, 1), (1, 0, 1), (1, 1, 0), (11, 1, 1), (1, 11, 1), (1, 1, 9), (-1, 3, 3), (10 ** 30, 1, 1)):
            self.assertIs(type(self.refusal(COUNTER, *sizes)), NoFloor)
            # ahead of all that is wrong with the text
            for text in ("", "module a\nend", USED):
                self.assertIs(type(self.refusal(text, *sizes)), NoFloor)

    def test_refused_as_made_whole(self):
        refusal = self.refusal("module a\nout b\nend", 1, 1, 1)
        self.assertEqual((type(refusal), refusal.line), (NoText, 1))
        refusal = self.refusal("module a\nout b c\nend", 1, 1, 1)
        self.assertEqual((type(refusal), refusal.line), (NoSense, 1))
        self.assertIs(type(self.refusal(COUNTER, 1, 1, 1)), NoRoom)
        refusal = self.refusal(WIDE, 10, 2, 1)
        self.assertIs(type(refusal), NoWays)
        self.assertIs(type(refusal.signal), int)


class PlayedTextTest(unittest.TestCase):
    def refused_line(self, bits, rows):
        with self.assertRaises(NoText) as caught:
            played_text(bits, rows)
        self.assertIs(type(caught.exception), NoText)
        return caught.exception.line

    def test_by_hand(self):
        # block 1 keeps the xor of the in and its not, so 1 always
        self.assertEqual(played_text(HAND_BITS, "0\n1\n1\n0"), "10\n11\n11\n10")
        self.assertEqual(played_text(HAND_BITS, "1"), "11")
        self.assertIs(type(played_text(HAND_BITS, "1")), str)

    def test_texts_against_scenes(self):
        for seed, text in enumerate(TEXTS):
            maker = TextMaker(seed)
            bits = bits_text(text, 7, 7, 7)
            wides = [wide for name, wide in faces(read_modules(text))[0]]
            rows = [maker.row(wides) for beat in range(100)]
            self.assertEqual(played_text(bits, rows_text(text, rows)), scene_text(text, rows))
            self.assertEqual(played_text(bits, rows_text(text, rows[:1])), scene_text(text, rows[:1]))

    def test_all_rows_of_a_small_text(self):
        bits = bits_text(FEW, 2, 3, 5)
        rows = [[number // 4 % 4] for number in range(16)] + [[number % 4] for number in range(16)]
        self.assertEqual(played_text(bits, rows_text(FEW, rows)), scene_text(FEW, rows))

    def test_many_texts(self):
        count = 0
        for seed in range(40):
            maker = TextMaker(seed, 3)
            text = maker.text()
            try:
                bits = bits_text(text, 9, 9, 8)
            except (NoRoom, NoWays):
                continue
            wides = [wide for name, wide in faces(read_modules(text))[0]]
            rows = [maker.row(wides) for beat in range(12)]
            self.assertEqual(played_text(bits, rows_text(text, rows)), scene_text(text, rows))
            count += 1
        self.assertGreater(count, 30)

    def test_no_ins(self):
        bits = bits_text(NO_INS, 4, 4, 6)
        self.assertEqual(played_text(bits, ""), "100")
        self.assertEqual(played_text(bits, "\n\n\n"), "100\n010\n111\n000")
        self.assertEqual(self.refused_line(bits, "0"), 0)
        self.assertEqual(self.refused_line(bits, "\n\n \n"), 2)

    def test_outs_that_do_not_change(self):
        bits = bits_text(NO_CHANGE, 3, 3, 8)
        self.assertEqual(played_text(bits, "00\n01\n10\n11"), "100100\n100101\n100110\n100111")

    def test_no_outs(self):
        self.assertEqual(played_text(bits_of((1, 1, 1), 2), "01\n10\n11"), "\n\n")
        self.assertEqual(played_text(bits_of((1, 1, 1)), ""), "")

    def test_rows_that_do_not_fit(self):
        bits = bits_of((2, 2, 2), 3, 1)
        for rows, line in (("", 0), ("\n", 0), ("000\n", 1), ("000\n\n000", 1), ("00", 0), ("0000", 0), ("000\n11", 1),
                           ("000\n111\n1111\n11", 2), ("0 0", 0), ("000\n002", 1), (" 000", 0), ("000 ", 0), ("000\nabc\n", 1),
                           ("0,0", 0), ("000\n000\n000\n", 3), ("-10", 0), ("000\n0\n2", 1)):
            self.assertEqual(self.refused_line(bits, rows), line, rows)
        self.assertEqual(played_text(bits, "000\n111"), "0\n0")

    def test_bits_ahead_of_rows(self):
        for bits, why in ((HAND_BITS[:-1], "length"), ("x", "sign"), ("", "length"), (bits_of((0, 1, 1)), "floor"),
                          (bits_of((2, 2, 2), cells={0: {"choices": [9]}}), "choice"),
                          (bits_of((2, 2, 2), pads={0: ((0,), 0)}), "pad"),
                          (bits_of((2, 2, 2), cells={0: {"drives": [(1, 0)]}, 1: {"drives": [(0, 0)]}}), "drive"),
                          (bits_of((2, 2, 2), cells={0: {"drives": [(1, 0)], "choices": [3]}}), "ring")):
            for rows in ("", "0", "2", "0\n0\n0"):
                with self.assertRaises(NoBits) as caught:
                    played_text(bits, rows)
                self.assertEqual(caught.exception.why, why)

    def test_each_call_begins_anew(self):
        bits = bits_text(NO_INS, 4, 4, 6)
        self.assertEqual([played_text(bits, "\n") for count in range(3)], ["100\n010"] * 3)


if __name__ == "__main__":
    unittest.main()
