"""Text read to modules."""

from bitfloor.errors import NoText
from bitfloor.modules import Module
from bitfloor.words import EXPR_FORMS, ROW_FORMS, pieces_of


class RowReader:
    """Takes the pieces of one row, first to last, and refuses the row where a piece is not the one wanted."""

    def __init__(self, text, line):
        self.line = line
        self.spot = 0
        self.pieces = pieces_of(text)
        if self.pieces is None:
            raise NoText(line)

    def kind_ahead(self):
        """The kind of the piece that comes, the empty text behind the last one."""
        if self.spot == len(self.pieces):
            return ""
        return self.pieces[self.spot][0]

    def take(self, kind):
        """What the piece that comes tells, which must be of this kind."""
        if self.kind_ahead() != kind:
            raise NoText(self.line)
        self.spot += 1
        return self.pieces[self.spot - 1][1]

    def take_expr(self):
        """The expression that comes."""
        kind = self.kind_ahead()
        if kind == "number":
            value = self.take("number")
            self.take(":")
            return ("value", value, self.take("number"))
        if kind == "name":
            return self.take_named()
        return self.take_bracket()

    def take_named(self):
        """A name, or an out of a used module."""
        name = self.take("name")
        if self.kind_ahead() != ".":
            return ("name", name)
        self.take(".")
        return ("of", name, self.take("name"))

    def take_bracket(self):
        """An expression in round brackets."""
        self.take("(")
        word = self.take("word")
        if word not in EXPR_FORMS:
            raise NoText(self.line)
        parts = [word]
        for kind in EXPR_FORMS[word]:
            parts.append(self.take_expr() if kind == "expr" else self.take(kind))
        self.take(")")
        return tuple(parts)

    def take_rest(self):
        """All expressions up to the row's end."""
        exprs = []
        while self.kind_ahead() != "":
            exprs.append(self.take_expr())
        return tuple(exprs)

    def take_part(self, kind):
        """The part of a row that is of this kind."""
        if kind == "expr":
            return self.take_expr()
        if kind == "exprs":
            return self.take_rest()
        return self.take(kind)

    def take_row(self):
        """The whole row, a tuple with its word first."""
        word = self.take("word")
        if word not in ROW_FORMS:
            raise NoText(self.line)
        parts = [word]
        for kind in ROW_FORMS[word]:
            parts.append(self.take_part(kind))
        if self.kind_ahead() != "":
            raise NoText(self.line)
        return tuple(parts)


def read_modules(text):
    """The list of the modules that a text tells."""
    modules = []
    heading = None
    rows = []
    lines = text.split("\n")
    for line, row_text in enumerate(lines):
        row = RowReader(row_text, line).take_row()
        if (row[0] == "module") != (heading is None):
            raise NoText(line)
        if row[0] == "module":
            heading = row[1]
            rows = []
        elif row[0] == "end":
            modules.append(Module(heading, rows))
            heading = None
        else:
            rows.append(row)
    if heading is not None:
        raise NoText(len(lines))
    return modules
