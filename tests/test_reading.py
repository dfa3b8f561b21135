"""Text read to modules and written again."""

import unittest

from bitfloor.errors import NoText
from bitfloor.modules import Module
from bitfloor.reading import read_modules
from bitfloor.writing import written_expr, written_modules

WORDS = "module in keep let use next out end not and or xor plus less same pick part join".split()
ROW_WORDS = "in keep let use next out".split()
EXPR_WORDS = "not and or xor plus less same pick part join".split()

ROWS = (
    ("in a 4", ("in", "a", 4)),
    ("keep k 3 7", ("keep", "k", 3, 7)),
    ("let b a", ("let", "b", ("name", "a"))),
    ("use u m", ("use", "u", "m", ())),
    ("use u m a", ("use", "u", "m", (("name", "a"),))),
    ("use u m a b.c 5:3 (not d) e", ("use", "u", "m", (
        ("name", "a"), ("of", "b", "c"), ("value", 5, 3), ("not", ("name", "d")), ("name", "e")))),
    ("next k a", ("next", "k", ("name", "a"))),
    ("out o a", ("out", "o", ("name", "a"))),
)

A = ("name", "a")
B = ("name", "b")
C = ("name", "c")

EXPRS = (
    ("a", A),
    ("abcdefgh", ("name", "abcdefgh")),
    ("u.o", ("of", "u", "o")),
    ("0:1", ("value", 0, 1)),
    ("999999999:999999999", ("value", 999999999, 999999999)),
    ("(not a)", ("not", A)),
    ("(and a b)", ("and", A, B)),
    ("(or a b)", ("or", A, B)),
    ("(xor a b)", ("xor", A, B)),
    ("(plus a b)", ("plus", A, B)),
    ("(less a b)", ("less", A, B)),
    ("(same a b)", ("same", A, B)),
    ("(pick a b c)", ("pick", A, B, C)),
    ("(part a 0 4)", ("part", A, 0, 4)),
    ("(join a b)", ("join", A, B)),
    ("(pick (not a) (join u.o 3:2) (part (plus a b) 12 1))",
     ("pick", ("not", A), ("join", ("of", "u", "o"), ("value", 3, 2)), ("part", ("plus", A, B), 12, 1))),
)


def parts_of(modules):
    return [(module.name, module.rows) for module in modules]


def within(row):
    return "module m\n" + row + "\nend"


def read_row(row):
    modules = read_modules(within(row))
    assert len(modules) == 1 and len(modules[0].rows) == 1
    return modules[0].rows[0]


def all_kinds(thing):
    """Every list, tuple and other thing within a thing."""
    found = [thing]
    if isinstance(thing, (list, tuple)):
        for inner in thing:
            found.extend(all_kinds(inner))
    return found


class ReadingTest(unittest.TestCase):
    def test_each_form_of_row(self):
        for text, row in ROWS:
            with self.subTest(row=text):
                self.assertEqual(read_row(text), row)

    def test_each_form_of_expression(self):
        for text, expr in EXPRS:
            with self.subTest(expr=text):
                self.assertEqual(read_row("let x " + text), ("let", "x", expr))
                self.assertEqual(read_row("out x " + text), ("out", "x", expr))
                self.assertEqual(read_row("next x " + text), ("next", "x", expr))
                self.assertEqual(read_row("use x y " + text + " " + text), ("use", "x", "y", (expr, expr)))

    def test_modules_one_behind_the_other(self):
        text = "module a\nend\nmodule b\nin x 1\nout o x\nend\nmodule a\nend"
        rows = (("in", "x", 1), ("out", "o", ("name", "x")))
        modules = read_modules(text)
        self.assertIsInstance(modules, list)
        self.assertEqual(parts_of(modules), [("a", ()), ("b", rows), ("a", ())])
        for module in modules:
            self.assertIsInstance(module, Module)

    def test_what_is_read_is_of_tuples(self):
        rows = read_modules("module m\n" + "\n".join(text for text, row in ROWS) + "\nend")[0].rows
        self.assertEqual(rows, tuple(row for text, row in ROWS))
        self.assertFalse(any(isinstance(thing, (list, bool)) for thing in all_kinds(rows)))

    def test_blanks_are_passed_over(self):
        for text, row in ROWS:
            spread = "   " + text.replace(" ", "   ").replace("(", " (  ").replace(")", "  ) ") + "  "
            spread = spread.replace(".", " . ").replace(":", "  :  ")
            self.assertEqual(read_row(spread), row)
        self.assertEqual(parts_of(read_modules("  module   m  \n  end ")), [("m", ())])

    def test_no_blanks_where_none_are_needed(self):
        self.assertEqual(read_row("in a4"), ("in", "a", 4))
        self.assertEqual(read_row("let x(and(not a)b.c)"), ("let", "x", ("and", ("not", A), ("of", "b", "c"))))
        self.assertEqual(read_row("use u m(not a)5:3b c.d(not b)"), ("use", "u", "m", (
            ("not", A), ("value", 5, 3), B, ("of", "c", "d"), ("not", B))))
        self.assertEqual(read_row("out o 3:4"), read_row("out o3 : 4"))
        self.assertEqual(read_row("let x(part a0 4)"), ("let", "x", ("part", A, 0, 4)))

    def test_names(self):
        names = ["a", "z", "abcdefgh", "zzzzzzzz"]
        for name in names + [word + "a" for word in WORDS] + ["a" + word for word in WORDS]:
            self.assertEqual(read_row("in " + name + " 1"), ("in", name, 1))
            self.assertEqual(read_modules("module " + name + "\nend")[0].name, name)
            self.assertEqual(read_row("let x " + name + "." + name), ("let", "x", ("of", name, name)))
        # what an expression's form is called is no word of the language
        for name in ("name", "of", "value", "expr", "exprs", "word", "number"):
            self.assertEqual(read_row("let " + name + " " + name), ("let", name, ("name", name)))

    def test_numbers(self):
        for text in ("0", "1", "9", "10", "100000000", "999999999"):
            self.assertEqual(read_row("keep k " + text + " " + text), ("keep", "k", int(text), int(text)))

    def test_expressions_twenty_deep(self):
        text = "a"
        expr = A
        for count in range(20):
            text = "(and " + text + " (not b))" if count % 2 else "(pick c " + text + " a)"
            expr = ("and", expr, ("not", B)) if count % 2 else ("pick", C, expr, A)
        self.assertEqual(read_row("let x " + text), ("let", "x", expr))
        self.assertEqual(written_expr(expr), text)

    def test_tokens_that_touch(self):
        self.assertEqual(read_row("use u m 12 : 3a . b"), ("use", "u", "m", (("value", 12, 3), ("of", "a", "b"))))
        self.assertEqual(read_row("use u m a b . c d"), ("use", "u", "m", (A, ("of", "b", "c"), ("name", "d"))))


class RefusedTextTest(unittest.TestCase):
    def assert_line(self, text, line):
        with self.assertRaises(NoText) as caught:
            read_modules(text)
        self.assertEqual(caught.exception.line, line, text)

    def assert_no_row(self, row):
        with self.subTest(row=row):
            self.assert_line("module m\nin good 4\n" + row + "\nout good a\nend", 2)
            self.assert_line(row + "\nmodule m\nend", 0)

    def test_signs_that_are_none(self):
        for code in range(ord(" "), ord("~") + 1):
            sign = chr(code)
            if sign == " ":
                continue
            if not sign.isdigit():
                self.assert_no_row("in a 4" + sign)
            self.assert_no_row(sign + "in a 4")
            if not (sign.islower() or sign.isdigit() or sign in "(.:)"):
                for row in ("in" + sign + "a 4", "let b (not" + sign + "a)", "in a" + sign + " 4", "in A 4", "in a 4 "
                            + sign, sign):
                    self.assert_no_row(row)

    def test_pieces_too_many_or_too_few(self):
        for text, row in ROWS:
            for more in (" 1", " )", " (", " .", " :", " end", " not"):
                self.assert_no_row(text + more)
            pieces = text.split(" ")
            if row[0] != "use":
                self.assert_no_row(text + " a")
                self.assert_no_row(text + " 5:5")
                for count in range(1, len(pieces)):
                    self.assert_no_row(" ".join(pieces[:count]))
        for row in ("use", "use u", "use u 3", "use 3 m", "use u m.o", "use u.o m", "use u (not a)"):
            self.assert_no_row(row)
        for text in ("module m n", "module", "module 3", "module m 3", "module (m)", "module m.n"):
            self.assert_line(text + "\nend", 0)
        for text in ("end m", "end end", "end 3", "end )"):
            self.assert_line("module m\n" + text, 1)

    def test_words_that_are_none(self):
        for word in ("a", "modul", "modules", "ins", "lets", "ends", "of", "value", "name", "outs"):
            self.assert_no_row(word + " a 4")
            self.assert_no_row(word)
        for word in EXPR_WORDS:
            self.assert_no_row(word + " a b")
            self.assert_no_row(word)
            self.assert_no_row("(" + word + " a b)")
        for word in ROW_WORDS + ["module", "end", "nor", "a", "of", "value", "name", "3", "(", ")", ""]:
            self.assert_no_row("let x (" + word + " a b)")
            self.assert_no_row("let x (" + word + " a)")
            self.assert_no_row("let x (" + word + ")")

    def test_names_that_are_none(self):
        for name in WORDS + ["abcdefghi", "a" * 20, "A", "aB", "a_b", "3", "a1", "1a", "(a)", ".", ":", "a.b"]:
            self.assert_line("module " + name + "\nend", 0)
            for row in ("in {} 4", "keep {} 4 0", "let {} x", "use {} m", "next {} x", "out {} x"):
                self.assert_no_row(row.format(name))
        for name in WORDS + ["abcdefghi", "A"]:
            for row in ("let x {}", "use u {}", "use u m {}", "let x {}.a", "let x a.{}", "out x (not {})"):
                self.assert_no_row(row.format(name))

    def test_numbers_that_are_none(self):
        for number in ("1000000000", "0000000000", "00", "01", "012345678", "-1", "+1", "a", "in", "1.", "1:1", "1 1"):
            for row in ("in a {}", "keep k {} 1", "keep k 1 {}", "let x {}:1", "let x 1:{}", "let x (part a {} 1)",
                        "let x (part a 1 {})"):
                self.assert_no_row(row.format(number))

    def test_wrong_things_in_the_place_of_an_expression(self):
        for expr in ("", "3", "3:", ":3", "3:a", "a:3", "3:4:5", "a.", ".a", "a.b.c", "a.3", "3.a", "a..b", "()", "(a)",
                     "(not)", "(not a", "not a", "not a)", "(not a b)", "(and a)", "(and a b c)", "(pick a b)",
                     "(pick a b c a)", "(part a b 1)", "(part a 1 b)", "(part a 1)", "(part 1 1 1)", "(part a 1 1 1)",
                     "(part a 1:1 1)", "(join a 4)", "(join a)", "(less a)", "((not a))", "(not (a))", "(not a))",
                     "((not a)", "(not 3)", "(not not a)", ")", "(", ".", ":", "in", "a (", "(and a, b)"):
            for row in ("let x ", "next x ", "out x ", "let x (not {})", "let x (and a {})"):
                text = row.format(expr) if "{" in row else row + expr
                self.assert_no_row(text)
            if expr:
                self.assert_no_row("use u m " + expr)
                self.assert_no_row("use u m " + expr + " 5:5")

    def test_empty_rows_and_rows_of_blanks(self):
        for row in ("", " ", "       "):
            self.assert_line(row, 0)
            self.assert_line(row + "\nmodule m\nend", 0)
            self.assert_line("module m\n" + row + "\nend", 1)
            self.assert_line("module m\nend\n" + row, 2)
            self.assert_line("module m\nend\n" + row + "\nmodule n\nend", 2)

    def test_rows_wanting_at_the_end(self):
        self.assert_line("module m", 1)
        self.assert_line("module m\nin a 4", 2)
        self.assert_line("module m\nin a 4\nout o a", 3)
        self.assert_line("module m\nend\nmodule n", 3)
        self.assert_line("module m\nend\nmodule n\nin a 4", 4)
        # the first row at fault is told, not what is wanting behind it
        self.assert_line("module m\nin a\nin b 4", 1)
        self.assert_line("module m\n", 1)

    def test_modules_within_modules_and_rows_outside(self):
        self.assert_line("module m\nmodule n\nend", 1)
        self.assert_line("module m\nin a 1\nmodule n\nend\nend", 2)
        self.assert_line("end", 0)
        self.assert_line("module m\nend\nend", 2)
        for text, row in ROWS:
            self.assert_line(text, 0)
            self.assert_line(text + "\nmodule m\nend", 0)
            self.assert_line("module m\nend\n" + text + "\nmodule m\nend", 2)
            self.assert_line("module m\nend\n" + text, 2)

    def test_the_first_of_several_is_told(self):
        self.assert_line("module m\nin a 4\nin b\nin\nend", 2)
        self.assert_line("module m\nend\nend\nbad", 2)
        self.assert_line("?\n?\n?", 0)


class WritingTest(unittest.TestCase):
    def test_each_form_of_expression(self):
        for text, expr in EXPRS:
            self.assertEqual(written_expr(expr), text)

    def test_each_form_of_row(self):
        for text, row in ROWS:
            self.assertEqual(written_modules([Module("m", [row])]), within(text))

    def test_no_modules(self):
        self.assertEqual(written_modules([]), "")
        self.assertEqual(written_modules(()), "")

    def test_what_is_written_is_read_back_the_same(self):
        rows = [row for text, row in ROWS] + [("let", "x", expr) for text, expr in EXPRS]
        modules = [Module("a", rows), Module("b", ()), Module("abcdefgh", rows[3:])]
        text = written_modules(modules)
        self.assertEqual(parts_of(read_modules(text)), parts_of(modules))
        self.assertEqual(written_modules(read_modules(text)), text)
        self.assertEqual(written_modules(tuple(modules)), text)
        self.assertFalse(text.endswith("\n"))


class ModuleTest(unittest.TestCase):
    def test_fields(self):
        for rows in ([("in", "a", 1)], (("in", "a", 1),)):
            module = Module("m", rows)
            self.assertEqual((module.name, module.rows), ("m", (("in", "a", 1),)))
            self.assertIsInstance(module.rows, tuple)
        self.assertEqual(Module("m", []).rows, ())

    def test_a_list_that_was_handed_in_may_be_changed(self):
        exprs = [("name", "a")]
        rows = [("in", "a", 1), ("use", "u", "n", exprs)]
        module = Module("m", rows)
        before = module.rows
        exprs.append(("name", "b"))
        rows.append(("in", "b", 2))
        rows[0] = ("in", "c", 3)
        self.assertEqual(module.rows, before)
        self.assertEqual(module.rows, (("in", "a", 1), ("use", "u", "n", (("name", "a"),))))

    def test_a_list_that_is_told_may_be_changed(self):
        modules = read_modules("module m\nend\nmodule n\nend")
        modules.pop()
        self.assertEqual(len(read_modules("module m\nend\nmodule n\nend")), 2)


if __name__ == "__main__":
    unittest.main()
