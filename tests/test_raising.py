"""Modules raised to nets, played against scenes."""

import unittest

from bitfloor.errors import NoRow, NoSense
from bitfloor.netplay import NetPlayer
from bitfloor.nets import Net, ins_of, keeps_of
from bitfloor.raising import bits_of_row, raised, row_of_bits
from bitfloor.reading import read_modules
from bitfloor.scene import Scene
from bitfloor.sense import faces
from samples import TextMaker


def bits_of(value, wide):
    return [value // 2 ** place % 2 for place in range(wide)]


def wides_of_held(modules):
    """The widths of all keepers in the order of held, found in the modules' rows."""
    by_name = {module.name: module for module in modules}

    def wides(name):
        rows = by_name[name].rows
        found = [row[2] for row in rows if row[0] == "keep"]
        for row in rows:
            if row[0] == "use":
                found.extend(wides(row[2]))
        return found

    return wides(modules[-1].name)


class RaisedTest(unittest.TestCase):
    def assert_like_scene(self, modules, rows):
        net = raised(modules)
        self.assertIsInstance(net, Net)
        scene = Scene(modules)
        player = NetPlayer(net)
        ins, outs = faces(modules)
        self.assert_held(modules, scene, player)
        self.assertEqual(len(ins_of(net)), sum(wide for name, wide in ins))
        self.assertEqual(len(net.outs), sum(wide for name, wide in outs))
        for row in rows:
            told = scene.beat(row)
            bits = player.beat(sum((bits_of(value, wide) for value, (name, wide) in zip(row, ins)), []))
            self.assertEqual(bits, sum((bits_of(value, wide) for value, (name, wide) in zip(told, outs)), []))
            self.assert_held(modules, scene, player)

    def assert_held(self, modules, scene, player):
        held = [value for path, value in scene.held()]
        bits = sum((bits_of(value, wide) for value, wide in zip(held, wides_of_held(modules))), [])
        self.assertEqual(player.held(), bits)

    def test_each_word_at_many_widths(self):
        for wide in list(range(1, 9)) + [15, 16]:
            most = 2 ** wide - 1
            values = sorted({0, 1, most, most // 2, max(most - 1, 0), 0x5A5A & most})
            rows = [[a, b, (a + b) % 2] for a in values for b in values]
            half = wide // 2
            for expr in ("(not a)", "(and a b)", "(or a b)", "(xor a b)", "(plus a b)", "(less a b)", "(same a b)",
                         "(pick c a b)", f"(part a {half} {wide - half})", f"(part b 0 {wide - half})", "(plus a a)",
                         "(same a a)", f"{most}:{wide}", "a", "(join c c)"):
                text = f"module m\nin a {wide}\nin b {wide}\nin c 1\nout o {expr}\nend"
                self.assert_like_scene(read_modules(text), rows)

    def test_join(self):
        for above, below in ((1, 1), (1, 15), (15, 1), (8, 8), (3, 5)):
            text = f"module m\nin a {above}\nin b {below}\nout o (join a b)\nend"
            rows = [[a % 2 ** above, b % 2 ** below] for a in (0, 1, 0xFFFF, 0x1234) for b in (0, 1, 0xFFFF, 0x4321)]
            self.assert_like_scene(read_modules(text), rows)

    def test_every_pair_of_three_bits(self):
        text = "module m\nin a 3\nin b 3\nout s (plus a b)\nout l (less a b)\nout e (same a b)\nend"
        self.assert_like_scene(read_modules(text), [[a, b] for a in range(8) for b in range(8)])

    def test_many_texts(self):
        for seed in range(150):
            maker = TextMaker(seed, 16 if seed % 3 == 0 else 4)
            with self.subTest(seed=seed):
                modules = read_modules(maker.text())
                wides = [wide for name, wide in faces(modules)[0]]
                self.assert_like_scene(modules, [maker.row(wides) for beat in range(8)])

    def test_in_and_keep_gates_and_first_values_in_order(self):
        text = (
            "module low\nin a 1\nkeep k 2 1\nnext k (join a a)\nout o k\nend\n"
            "module top\nuse u low 1:1\nkeep p 3 6\nin x 2\nuse v low 0:1\nkeep q 1 1\nin y 1\n"
            "next q y\nnext p (join x y)\nout a x\nout b (join u.o v.o)\nend"
        )
        modules = read_modules(text)
        net = raised(modules)
        firsts = [net.gates[number][1] for number in keeps_of(net)]
        self.assertEqual(firsts, [0, 1, 1, 1, 1, 0, 1, 0])
        self.assertEqual(len(ins_of(net)), 3)
        self.assertEqual(list(net.outs[:2]), ins_of(net)[:2])
        self.assert_like_scene(modules, [[x, y] for x in range(4) for y in (0, 1)])

    def test_tuples_and_no_ins(self):
        self.assertEqual(NetPlayer(raised(tuple(read_modules("module m\nout o 5:3\nend")))).beat([]), [1, 0, 1])

    def test_refused_as_ask_sense(self):
        for text, line in (("module m\nin a 17\nout o a\nend", 1), ("module m\nin a 1\nend", 2)):
            with self.assertRaises(NoSense) as caught:
                raised(read_modules(text))
            self.assertEqual(caught.exception.line, line)
        with self.assertRaises(NoSense) as caught:
            raised([])
        self.assertEqual(caught.exception.line, -1)

    def test_the_modules_are_left_alone(self):
        modules = read_modules("module m\nin a 2\nkeep k 2 1\nnext k a\nout o k\nend")
        before = [(module, module.name, module.rows) for module in modules]
        one = raised(modules)
        other = raised(modules)
        self.assertEqual([(module, module.name, module.rows) for module in modules], before)
        self.assertEqual((one.gates, one.outs), (other.gates, other.outs))


class RowsTest(unittest.TestCase):
    side = [("a", 4), ("b", 1), ("c", 16)]

    def test_there_and_back(self):
        for row in ([0, 0, 0], [15, 1, 65535], [6, 0, 1], [1, 1, 32768], [8, 0, 0x1234]):
            bits = bits_of(row[0], 4) + bits_of(row[1], 1) + bits_of(row[2], 16)
            self.assertEqual(bits_of_row(self.side, row), bits)
            self.assertEqual(row_of_bits(self.side, bits), row)
            self.assertEqual(bits_of_row(tuple(self.side), tuple(row)), bits)
            self.assertEqual(row_of_bits(tuple(self.side), tuple(bits)), row)
        self.assertEqual(bits_of_row([("x", 3)], [6]), [0, 1, 1])
        self.assertEqual(row_of_bits([("x", 3)], [0, 1, 1]), [6])

    def test_faces_of_modules(self):
        side = faces(read_modules("module m\nin a 2\nin b 3\nout o (join b a)\nend"))
        self.assertEqual(bits_of_row(side[0], [1, 4]), [1, 0, 0, 0, 1])
        self.assertEqual(row_of_bits(side[1], [1, 0, 0, 0, 1]), [17])

    def test_empty(self):
        for nothing in ([], ()):
            self.assertEqual((bits_of_row(nothing, nothing), row_of_bits(nothing, nothing)), ([], []))

    def test_rows_that_do_not_fit(self):
        rows = [[], [1, 1], [1, 1, 1, 1], (1,), [16, 0, 0], [-1, 0, 0], [0, 2, 0], [0, 0, 65536], [10 ** 30, 0, 0]]
        rows += [[0, thing, 0] for thing in (True, False, None, "0", "", [0], (1,), {})]
        for row in rows:
            with self.assertRaises(NoRow, msg=str(row)):
                bits_of_row(self.side, row)
        with self.assertRaises(NoRow):
            bits_of_row([], [0])

    def test_bits_that_do_not_fit(self):
        good = [0, 1] * 10 + [1]
        self.assertEqual(len(row_of_bits(self.side, good)), 3)
        rows = [[], good[1:], good + [0], tuple(good[1:])]
        for thing in (2, -1, True, False, None, "0", "1", [0], (1,), 10 ** 30):
            rows += [[thing] + good[1:], good[:-1] + [thing], good[:10] + [thing] + good[11:]]
        for row in rows:
            with self.assertRaises(NoRow, msg=str(row)):
                row_of_bits(self.side, row)
        with self.assertRaises(NoRow):
            row_of_bits([], [0])

    def test_rows_of_another_kind(self):
        for row in (None, 0, True, "", "000", {}):
            for asked in (bits_of_row, row_of_bits):
                with self.assertRaises(NoRow):
                    asked(self.side, row)

    def test_what_was_handed_in_is_left_alone(self):
        row = [6, 0, 1]
        bits = bits_of_row(self.side, row)
        bits_again = list(bits)
        row_of_bits(self.side, bits).clear()
        self.assertEqual((row, bits, self.side), ([6, 0, 1], bits_again, [("a", 4), ("b", 1), ("c", 16)]))


if __name__ == "__main__":
    unittest.main()
