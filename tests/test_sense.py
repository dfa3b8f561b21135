"""Which modules have a sense, and how wide their faces are."""

import unittest

from bitfloor.errors import NoSense
from bitfloor.modules import Module
from bitfloor.reading import read_modules
from bitfloor.sense import ask_sense, faces

HEAD = "module low\nin p 3\nin q 1\nkeep k 2 1\nnext k 2:2\nout sum p\nout bit q\nout k k\nend\n"
HEAD_ROWS = 9


class SenseCase(unittest.TestCase):
    def assert_sense(self, text):
        with self.subTest(text=text):
            self.assertIsNone(ask_sense(read_modules(text)))

    def assert_line(self, text, line):
        with self.subTest(text=text):
            modules = read_modules(text)
            for asked in (ask_sense, faces):
                with self.assertRaises(NoSense) as caught:
                    asked(modules)
                self.assertEqual(caught.exception.line, line)

    def assert_rows(self, good, bad):
        """Rows of which each good one has a sense in its place, and each bad one has none."""
        before = "module m\nin a 4\nin b 4\nin c 1\nin d 16\nkeep k 4 0\nuse u low 5:3 c\nlet e (plus a b)\n"
        after = "\nnext k k\nout o a\nend"
        for row in good:
            self.assert_sense(HEAD + before + row + after)
        for row in bad:
            self.assert_line(HEAD + before + row + after, HEAD_ROWS + 8)

    def assert_exprs(self, good, bad):
        self.assert_rows(
            ["let x " + expr for expr in good] + ["out x " + expr for expr in good],
            ["let x " + expr for expr in bad] + ["out x " + expr for expr in bad],
        )

    def wide_of(self, expr):
        text = HEAD + "module m\nin a 4\nin b 4\nin c 1\nin d 16\nuse u low 5:3 c\nlet e (plus a b)\nout o " + expr
        return faces(read_modules(text + "\nend"))[1][0][1]


class NamesTest(SenseCase):
    def test_a_module_has_no_earlier_ones_name(self):
        self.assert_sense("module a\nout o 0:1\nend\nmodule b\nout o 0:1\nend")
        self.assert_line("module a\nout o 0:1\nend\nmodule a\nout o 0:1\nend", 3)
        self.assert_line("module a\nout o 0:1\nend\nmodule b\nout o 0:1\nend\nmodule a\nout x x\nend", 6)

    def test_names_of_in_keep_let_and_use_rows_are_unlike(self):
        for name in ("a", "k", "u", "e"):
            self.assert_rows([], [
                "in " + name + " 2", "keep " + name + " 2 0", "let " + name + " a", "use " + name + " low 5:3 c"])
        self.assert_rows(["in x 2", "let x a", "use x low 5:3 c"], [])
        self.assert_rows(["keep x 2 0\nnext x 1:2"], [])

    def test_names_of_out_rows_are_unlike_one_another_alone(self):
        self.assert_rows(["out a a", "out k a", "out u a", "out e a", "out m a", "out low a"], [])
        self.assert_rows(["out x a\nout y a"], [])
        self.assert_line("module m\nin a 1\nout x a\nlet x a\nout y a\nout x a\nend", 5)

    def test_names_of_another_module_are_free(self):
        self.assert_sense(HEAD + "module m\nin p 3\nlet q p\nkeep k 1 0\nnext k k\nout sum q\nend")
        self.assert_line(HEAD + "module m\nout sum p\nend", HEAD_ROWS + 1)
        self.assert_rows(["let low a", "let m a", "use low low 5:3 c", "use m low 5:3 c"], [])


class WidthTest(SenseCase):
    def test_widths_from_1_to_16(self):
        self.assert_rows(
            ["in x 1", "in x 16", "keep x 1 0\nnext x 0:1", "keep x 16 0\nnext x d"],
            ["in x 0", "in x 17", "in x 999999999", "keep x 0 0", "keep x 17 0", "keep x 999999999 0"],
        )
        self.assert_exprs(["0:1", "0:16"], ["0:0", "0:17", "1:0", "0:999999999"])

    def test_values_below_the_power_of_their_width(self):
        for wide in range(1, 17):
            most = 2 ** wide - 1
            self.assert_exprs([f"{most}:{wide}", f"0:{wide}"], [f"{most + 1}:{wide}"])
            self.assert_rows(
                [f"keep x {wide} {most}\nnext x {most}:{wide}"], [f"keep x {wide} {most + 1}\nnext x {most}:{wide}"])
        self.assert_exprs([], ["999999999:16"])

    def test_width_of_each_form(self):
        cases = {
            "a": 4, "c": 1, "d": 16, "e": 4, "u.sum": 3, "u.bit": 1, "u.k": 2, "9:5": 5, "(not a)": 4, "(and a b)": 4,
            "(or a b)": 4, "(xor a b)": 4, "(plus a b)": 4, "(less a b)": 1, "(same a b)": 1, "(pick c a b)": 4,
            "(part a 1 2)": 2, "(join a c)": 5, "(join c a)": 5, "(not (join a b))": 8, "(less d d)": 1,
            "(same c c)": 1, "(pick (less a b) d d)": 16, "(plus c c)": 1,
        }
        for expr, wide in cases.items():
            self.assertEqual(self.wide_of(expr), wide, expr)


class ExprTest(SenseCase):
    def test_names_of_rows_above(self):
        self.assert_exprs(["a", "c", "d", "k", "e"], ["x", "o", "u", "low", "sum", "p", "zz"])
        self.assert_rows([], ["let x x", "let x (not x)", "use x low 5:3 x", "use x low x.sum c"])
        self.assert_line("module m\nlet x y\nin y 1\nout o x\nend", 1)
        self.assert_line("module m\nlet x k\nkeep k 1 0\nnext k k\nout o x\nend", 1)
        self.assert_line("module m\nout o x\nlet x 0:1\nend", 1)
        self.assert_line("module m\nin a 1\nout o a\nout x o\nend", 3)

    def test_outs_of_used_modules(self):
        self.assert_exprs(["u.sum", "u.bit", "u.k"], ["u.p", "u.q", "u.o", "u.u", "low.sum", "a.sum", "k.k", "x.sum"])
        self.assert_line(HEAD + "module m\nin c 1\nlet x u.sum\nuse u low 5:3 c\nout o x\nend", HEAD_ROWS + 2)
        self.assert_line(HEAD + "module m\nin c 1\nuse u low u.sum c\nout o c\nend", HEAD_ROWS + 2)
        # a use's outs stay in the module that has the use row
        middle = "module mid\nuse u low 1:3 1:1\nout o u.sum\nend\n"
        self.assert_sense(HEAD + middle + "module m\nuse v mid\nout o v.o\nend")
        self.assert_line(HEAD + middle + "module m\nuse v mid\nout o u.sum\nend", HEAD_ROWS + 6)
        self.assert_line(HEAD + middle + "module m\nuse v mid\nout o v.sum\nend", HEAD_ROWS + 6)

    def test_two_sided_words_want_the_same_width(self):
        for word in ("and", "or", "xor", "plus", "less", "same"):
            self.assert_exprs(
                [f"({word} a b)", f"({word} c c)", f"({word} d d)", f"({word} u.sum 7:3)"],
                [f"({word} a c)", f"({word} c a)", f"({word} a 3:3)", f"({word} 3:5 a)", f"({word} a u)",
                 f"({word} x x)", f"({word} a x)", f"({word} x a)"],
            )

    def test_not_wants_a_sense_within(self):
        self.assert_exprs(["(not a)", "(not c)"], ["(not x)", "(not u)", "(not 2:1)", "(not (and a c))"])

    def test_pick(self):
        self.assert_exprs(
            ["(pick c a b)", "(pick 1:1 d d)", "(pick c c c)", "(pick u.bit c c)"],
            ["(pick a a b)", "(pick 0:2 a b)", "(pick c a c)", "(pick c c a)", "(pick c a d)", "(pick x a b)",
             "(pick c x b)", "(pick c a x)", "(pick c x x)"],
        )

    def test_part(self):
        self.assert_exprs(
            ["(part a 0 1)", "(part a 0 4)", "(part a 3 1)", "(part a 1 3)", "(part d 0 16)", "(part d 15 1)",
             "(part c 0 1)"],
            ["(part a 0 0)", "(part a 0 5)", "(part a 4 1)", "(part a 3 2)", "(part a 4 0)", "(part d 15 2)",
             "(part d 1 16)", "(part c 1 1)", "(part x 0 1)", "(part a 999999999 1)", "(part a 0 999999999)",
             "(part x 0 0)", "(part (and a c) 0 1)"],
        )

    def test_join(self):
        self.assert_exprs(
            ["(join a b)", "(join 0:15 c)", "(join c 0:15)", "(join 0:8 0:8)", "(join (join a b) (join a b))"],
            ["(join d c)", "(join c d)", "(join d d)", "(join 0:8 0:9)", "(join a x)", "(join x a)", "(join u a)",
             "(join (join a b) (join e (join a c)))"],
        )


class UseTest(SenseCase):
    def test_as_many_expressions_as_ins_each_as_wide(self):
        self.assert_rows(
            ["use x low 5:3 c", "use x low u.sum u.bit"],
            ["use x low", "use x low 5:3", "use x low 5:3 c c", "use x low c 5:3", "use x low a c", "use x low 5:3 a",
             "use x low 5:3 z", "use x low z c", "use x low 5:2 c"],
        )

    def test_no_ins_no_expressions(self):
        head = "module low\nout o 1:1\nend\nmodule m\n"
        self.assert_sense(head + "use u low\nout o u.o\nend")
        self.assert_line(head + "use u low 0:1\nout o u.o\nend", 4)

    def test_only_a_module_above(self):
        self.assert_rows([], ["use x none 5:3 c", "use x m", "use x m a b c d", "use x u", "use x a"])
        self.assert_line("module m\nuse u m\nout o 0:1\nend", 1)
        self.assert_line("module m\nuse u n\nout o 0:1\nend\nmodule n\nout o 0:1\nend", 1)
        self.assert_sense(
            "module n\nout o 0:1\nend\nmodule m\nuse u n\nuse v n\nout o u.o\nend\n"
            "module t\nuse u m\nuse v n\nout o u.o\nout p v.o\nend")


class NextTest(SenseCase):
    def test_a_keeper_above_that_has_none_yet(self):
        self.assert_line("module m\nkeep k 1 0\nnext k k\nnext k k\nout o k\nend", 3)
        self.assert_line("module m\nnext k 0:1\nkeep k 1 0\nout o k\nend", 1)
        self.assert_sense("module m\nkeep k 1 0\nin a 1\nlet b a\nout o b\nnext k b\nend")
        self.assert_rows([], ["next a a", "next e e", "next u a", "next x a", "next o a", "next m a"])
        self.assert_line(HEAD + "module m\nuse u low 0:3 0:1\nnext k 0:2\nout o 0:1\nend", HEAD_ROWS + 2)

    def test_as_wide(self):
        for wide in (1, 5, 16):
            text = f"module m\nkeep k {wide} 0\nnext k 0:%d\nout o k\nend"
            self.assert_sense(text % wide)
            self.assert_line(text % (wide % 16 + 1), 2)
        self.assert_line("module m\nkeep k 4 0\nnext k x\nout o k\nend", 2)
        self.assert_line("module m\nkeep k 4 0\nnext k 0:3\nout o k\nend", 2)

    def test_its_expression_has_only_rows_above(self):
        self.assert_line("module m\nkeep k 4 0\nnext k x\nlet x k\nout o k\nend", 2)


class EndTest(SenseCase):
    def test_each_keeper_has_a_next_row(self):
        self.assert_line("module m\nkeep k 1 0\nout o k\nend", 3)
        self.assert_line("module m\nkeep k 1 0\nkeep l 1 0\nnext k l\nout o k\nend", 5)
        self.assert_line("module m\nkeep k 1 0\nkeep l 1 0\nnext l l\nout o k\nend\nmodule m\nend", 5)

    def test_there_is_an_out_row(self):
        self.assert_line("module m\nend", 1)
        self.assert_line("module m\nin a 1\nlet b a\nend", 3)
        self.assert_line("module n\nout o 0:1\nend\nmodule m\nin a 1\nend", 5)
        self.assert_sense("module m\nout o 0:1\nend")


class AskTest(SenseCase):
    def test_no_module(self):
        for modules in ([], ()):
            for asked in (ask_sense, faces):
                with self.assertRaises(NoSense) as caught:
                    asked(modules)
                self.assertEqual(caught.exception.line, -1)

    def test_the_first_row_without_a_sense_is_told(self):
        self.assert_line("module m\nin a 4\nin b 0\nlet c x\nend", 2)
        self.assert_line("module m\nin a 17\nend\nmodule m\nend", 1)
        self.assert_line("module m\nend\nmodule m\nin a 17\nend", 1)

    def test_every_module_is_looked_at(self):
        self.assert_line("module m\nin a 17\nout o a\nend\nmodule n\nout o 0:1\nend", 1)
        self.assert_line(HEAD + "module m\nin a 17\nout o a\nend\nmodule n\nout o 0:1\nend", HEAD_ROWS + 1)

    def test_modules_made_by_hand(self):
        module = Module("m", [["in", "a", 2], ["out", "o", ["not", ["name", "a"]]]])
        self.assertIsNone(ask_sense([module]))
        self.assertIsNone(ask_sense((module,)))
        self.assertEqual(faces([module]), ([("a", 2)], [("o", 2)]))

    def test_deep_expressions(self):
        expr = "a"
        for count in range(20):
            expr = "(plus a " + expr + ")"
        self.assert_exprs([expr], [expr.replace("a)", "c)")])


class FacesTest(SenseCase):
    def test_the_top_modules_rows_in_order(self):
        text = HEAD + "module top\nin b 4\nout z b\nin a 2\nuse u low 1:3 1:1\nout a (join a b)\nout y u.sum\nend"
        self.assertEqual(faces(read_modules(text)), ([("b", 4), ("a", 2)], [("z", 4), ("a", 6), ("y", 3)]))
        self.assertEqual(faces(read_modules("module m\nout o 0:1\nend")), ([], [("o", 1)]))

    def test_kinds(self):
        told = faces(tuple(read_modules(HEAD[:-1])))
        self.assertEqual(told, ([("p", 3), ("q", 1)], [("sum", 3), ("bit", 1), ("k", 2)]))
        self.assertIsInstance(told, tuple)
        for side in told:
            self.assertIsInstance(side, list)
            for pair in side:
                self.assertIsInstance(pair, tuple)

    def test_what_is_told_may_be_changed(self):
        modules = read_modules(HEAD[:-1])
        told = faces(modules)
        told[0].clear()
        told[1].append(("x", 1))
        self.assertEqual(faces(modules), ([("p", 3), ("q", 1)], [("sum", 3), ("bit", 1), ("k", 2)]))

    def test_what_was_handed_in_is_left_alone(self):
        modules = read_modules(HEAD + "module m\nout o 0:1\nend")
        before = list(modules)
        ask_sense(modules)
        faces(modules)
        self.assertEqual(modules, before)


if __name__ == "__main__":
    unittest.main()
