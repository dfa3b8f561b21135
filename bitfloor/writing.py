"""Modules and expressions written as text."""

from bitfloor.words import EXPR_FORMS, ROW_FORMS


def written_expr(expr):
    """The text of an expression."""
    word = expr[0]
    if word == "name":
        return expr[1]
    if word == "of":
        return expr[1] + "." + expr[2]
    if word == "value":
        return str(expr[1]) + ":" + str(expr[2])
    pieces = [word]
    for kind, part in zip(EXPR_FORMS[word], expr[1:]):
        pieces.append(written_expr(part) if kind == "expr" else str(part))
    return "(" + " ".join(pieces) + ")"


def written_row(row):
    """The text of a module's row."""
    pieces = [row[0]]
    for kind, part in zip(ROW_FORMS[row[0]], row[1:]):
        if kind == "expr":
            pieces.append(written_expr(part))
        elif kind == "exprs":
            pieces.extend([written_expr(expr) for expr in part])
        else:
            pieces.append(str(part))
    return " ".join(pieces)


def written_modules(modules):
    """The text of modules, one behind the other."""
    rows = []
    for module in modules:
        rows.append(written_row(("module", module.name)))
        rows.extend([written_row(row) for row in module.rows])
        rows.append(written_row(("end",)))
    return "\n".join(rows)
