"""Modules in play."""

import unittest

from bitfloor.errors import NoRow, NoSense
from bitfloor.reading import read_modules
from bitfloor.scene import Scene


def scene_of(text):
    return Scene(read_modules(text))


def edges(wide):
    """Values at the edges of a width, and some between."""
    most = 2 ** wide - 1
    return sorted({0, 1, most, most - 1, most // 2, most // 2 + 1, 0x5A5A & most} & set(range(most + 1)))


COUNT = "module count\nin step 4\nkeep now 4 5\nnext now (plus now step)\nout now now\nend"


class WordsTest(unittest.TestCase):
    def test_words_of_two_sides(self):
        words = {
            "and": lambda a, b, w: a & b,
            "or": lambda a, b, w: a | b,
            "xor": lambda a, b, w: a ^ b,
            "plus": lambda a, b, w: (a + b) % 2 ** w,
            "less": lambda a, b, w: int(a < b),
            "same": lambda a, b, w: int(a == b),
        }
        for wide in range(1, 17):
            rows = "".join(f"\nout o{mark} ({word} a b)" for mark, word in zip("abcdef", words))
            scene = scene_of(f"module m\nin a {wide}\nin b {wide}" + rows + "\nend")
            for a in edges(wide):
                for b in edges(wide):
                    self.assertEqual(scene.beat([a, b]), [tell(a, b, wide) for tell in words.values()], (wide, a, b))

    def test_every_pair_of_four_bits(self):
        scene = scene_of("module m\nin a 4\nin b 4\nout s (plus a b)\nout l (less a b)\nout e (same a b)\nend")
        for a in range(16):
            for b in range(16):
                self.assertEqual(scene.beat([a, b]), [(a + b) % 16, int(a < b), int(a == b)])

    def test_not(self):
        for wide in range(1, 17):
            scene = scene_of(f"module m\nin a {wide}\nout o (not a)\nout p (not (not a))\nend")
            for a in edges(wide):
                self.assertEqual(scene.beat([a]), [2 ** wide - 1 - a, a])

    def test_pick(self):
        for wide in (1, 2, 15, 16):
            scene = scene_of(f"module m\nin c 1\nin a {wide}\nin b {wide}\nout o (pick c a b)\nend")
            for a in edges(wide):
                for b in edges(wide):
                    self.assertEqual(scene.beat([1, a, b]), [a])
                    self.assertEqual(scene.beat([0, a, b]), [b])

    def test_part(self):
        for wide in (1, 5, 16):
            for low in range(wide):
                for part in range(1, wide - low + 1):
                    scene = scene_of(f"module m\nin a {wide}\nout o (part a {low} {part})\nend")
                    for a in edges(wide):
                        self.assertEqual(scene.beat([a]), [a // 2 ** low % 2 ** part])

    def test_join(self):
        for above, below in ((1, 1), (1, 15), (15, 1), (8, 8), (3, 5)):
            scene = scene_of(f"module m\nin a {above}\nin b {below}\nout o (join a b)\nend")
            for a in edges(above):
                for b in edges(below):
                    self.assertEqual(scene.beat([a, b]), [a * 2 ** below + b])

    def test_values_names_and_widths_within(self):
        scene = scene_of("module m\nin a 4\nlet b (not a)\nlet c (plus b 3:4)\nout o c\nend")
        self.assertEqual(scene.beat([0]), [2])
        scene = scene_of("module m\nout o 9:5\nout p (not (part 0:9 0 3))\nout q (plus (less 0:9 1:9) 1:1)\nend")
        self.assertEqual(scene.beat([]), [9, 7, 0])
        scene = scene_of("module m\nin a 2\nin b 3\nout o (not (join a (not (part b 1 2))))\nend")
        self.assertEqual(scene.beat([2, 5]), [0b0110])
        # less and same are one bit wide, however wide what they look at
        scene = scene_of("module m\nin a 3\nin b 3\nout o (join a (same a b))\nout p (join a (less a b))\nend")
        self.assertEqual([scene.beat([5, 5]), scene.beat([4, 5])], [[11, 10], [8, 9]])
        scene = scene_of("module m\nin a 3\nin b 3\nout o (not (same a b))\nout p (not (less a b))\nend")
        self.assertEqual([scene.beat([5, 5]), scene.beat([4, 5])], [[0, 1], [1, 0]])


class KeepersTest(unittest.TestCase):
    def test_a_keeper_takes_its_value_when_all_is_told(self):
        scene = scene_of(COUNT)
        self.assertEqual(scene.held(), [(("now",), 5)])
        self.assertEqual(scene.beat([3]), [5])
        self.assertEqual(scene.held(), [(("now",), 8)])
        self.assertEqual(scene.beat([15]), [8])
        self.assertEqual(scene.beat([0]), [7])
        self.assertEqual(scene.held(), [(("now",), 7)])

    def test_keepers_exchange_what_they_hold(self):
        scene = scene_of("module m\nkeep a 2 1\nkeep b 2 2\nnext a b\nnext b a\nlet x (join a b)\nout o x\nend")
        self.assertEqual([scene.beat([])[0] for count in range(3)], [6, 9, 6])
        scene = scene_of("module m\nkeep a 2 1\nnext a 3:2\nlet x a\nout o x\nout p a\nend")
        self.assertEqual(scene.beat([]), [1, 1])
        self.assertEqual(scene.beat([]), [3, 3])

    def test_each_use_has_keepers_of_its_own(self):
        top = "\nmodule top\nin a 4\nuse u count a\nuse v count u.now\nout x u.now\nout y v.now\nend"
        scene = scene_of(COUNT + top)
        first = second = 5
        for step in (1, 2, 15, 0, 7):
            self.assertEqual(scene.beat([step]), [first, second])
            second = (second + first) % 16
            first = (first + step) % 16
            self.assertEqual(scene.held(), [(("u", "now"), first), (("v", "now"), second)])

    def test_used_modules_tell_at_the_same_beat(self):
        text = (
            "module inv\nin a 4\nout o (not a)\nend\n"
            "module two\nin a 4\nuse u inv a\nuse v inv u.o\nout o v.o\nout p u.o\nend\n"
            "module top\nin a 4\nuse t two (plus a 1:4)\nuse s inv t.o\nout o t.o\nout p t.p\nout q s.o\nend"
        )
        scene = scene_of(text)
        for a in range(16):
            b = (a + 1) % 16
            self.assertEqual(scene.beat([a]), [b, 15 - b, 15 - b])

    def test_the_order_of_held_and_its_paths(self):
        text = (
            "module low\nkeep a 1 1\nkeep b 2 2\nnext b b\nnext a a\nout o a\nend\n"
            "module mid\nuse y low\nkeep m 3 3\nuse x low\nnext m m\nout o m\nend\n"
            "module top\nuse q mid\nkeep z 4 4\nuse p low\nkeep a 4 5\nnext a a\nnext z z\nout o z\nend"
        )
        scene = scene_of(text)
        expected = [
            (("z",), 4), (("a",), 5), (("q", "m"), 3), (("q", "y", "a"), 1), (("q", "y", "b"), 2),
            (("q", "x", "a"), 1), (("q", "x", "b"), 2), (("p", "a"), 1), (("p", "b"), 2),
        ]
        self.assertEqual(scene.held(), expected)
        self.assertEqual(scene.beat([]), [4])
        self.assertEqual(scene.held(), expected)
        told = scene.held()
        self.assertIsInstance(told, list)
        self.assertTrue(all(isinstance(pair, tuple) and isinstance(pair[0], tuple) for pair in told))

    def test_the_last_module_is_the_top_one(self):
        scene = scene_of("module a\nout o 1:1\nend\nmodule b\nout o 2:2\nend")
        self.assertEqual(scene.beat([]), [2])

    def test_uses_six_deep(self):
        rows = ["module ma", "in a 4", "keep k 4 1", "next k a", "out o (plus a k)", "end"]
        for one, other in zip("abcdef", "bcdefg"):
            rows += ["module m" + other, "in a 4", "use u m" + one + " (plus a 1:4)", "out o u.o", "end"]
        scene = scene_of("\n".join(rows))
        self.assertEqual(scene.held(), [(("u",) * 6 + ("k",), 1)])
        self.assertEqual([scene.beat([2])[0], scene.beat([3])[0]], [9, 1])

    def test_expressions_twenty_deep(self):
        expr = "a"
        for count in range(20):
            expr = f"(plus {expr} 1:8)"
        self.assertEqual(scene_of(f"module m\nin a 8\nout o {expr}\nend").beat([7]), [27])


class AloneTest(unittest.TestCase):
    def test_two_scenes_do_not_meddle(self):
        modules = read_modules(COUNT)
        one = Scene(modules)
        other = Scene(modules)
        one.beat([4])
        self.assertEqual(other.held(), [(("now",), 5)])
        self.assertEqual(other.beat([1]), [5])
        self.assertEqual(one.beat([1]), [9])

    def test_what_is_told_and_handed_in_may_be_changed(self):
        modules = read_modules(COUNT)
        scene = Scene(modules)
        modules.clear()
        row = [3]
        told = scene.beat(row)
        row[0] = 9
        told.append(1)
        scene.held().clear()
        self.assertEqual(scene.held(), [(("now",), 8)])
        self.assertEqual(scene.beat((3,)), [8])
        self.assertIsInstance(told, list)

    def test_modules_may_be_a_tuple(self):
        self.assertEqual(Scene(tuple(read_modules(COUNT))).beat([1]), [5])


class RefusedTest(unittest.TestCase):
    def test_rows_that_do_not_fit_change_nothing(self):
        text = "module m\nin a 4\nin b 1\nkeep k 4 3\nnext k (plus k a)\nout o k\nout p b\nend"
        scene = scene_of(text)
        scene.beat([1, 0])
        for row in ([], [1], [1, 1, 1], (), (1,), [16, 0], [-1, 0], [0, 2], [0, -1], [99999999999, 0], [True, 0],
                    [0, True], [0, False], [None, 0], ["1", 0], [0, [0]]):
            with self.assertRaises(NoRow, msg=str(row)):
                scene.beat(row)
            self.assertEqual(scene.held(), [(("k",), 4)])
        self.assertEqual(scene.beat([15, 1]), [4, 1])
        self.assertEqual(scene.beat((0, 0)), [3, 0])

    def test_widths_of_values(self):
        for wide in range(1, 17):
            scene = scene_of(f"module m\nin a {wide}\nout o a\nend")
            self.assertEqual(scene.beat([2 ** wide - 1]), [2 ** wide - 1])
            with self.assertRaises(NoRow):
                scene.beat([2 ** wide])

    def test_no_ins(self):
        scene = scene_of("module m\nout o 1:1\nend")
        self.assertEqual(scene.beat(()), [1])
        with self.assertRaises(NoRow):
            scene.beat([0])

    def test_refused_as_ask_sense(self):
        for text, line in (("module m\nin a 17\nout o a\nend", 1), ("module m\nend", 1)):
            with self.assertRaises(NoSense) as caught:
                scene_of(text)
            self.assertEqual(caught.exception.line, line)
        with self.assertRaises(NoSense) as caught:
            Scene([])
        self.assertEqual(caught.exception.line, -1)


if __name__ == "__main__":
    unittest.main()
