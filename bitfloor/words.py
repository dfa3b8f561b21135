"""The pieces of a row of text, and the kinds of pieces that each row and each bracket wants."""

ROW_FORMS = {
    "module": ("name",),
    "in": ("name", "number"),
    "keep": ("name", "number", "number"),
    "let": ("name", "expr"),
    "use": ("name", "name", "exprs"),
    "next": ("name", "expr"),
    "out": ("name", "expr"),
    "end": (),
}

EXPR_FORMS = {
    "not": ("expr",),
    "and": ("expr", "expr"),
    "or": ("expr", "expr"),
    "xor": ("expr", "expr"),
    "plus": ("expr", "expr"),
    "less": ("expr", "expr"),
    "same": ("expr", "expr"),
    "pick": ("expr", "expr", "expr"),
    "part": ("expr", "number", "number"),
    "join": ("expr", "expr"),
}

SIGNS = ("(", ")", ".", ":")

LONGEST_NAME = 8
LONGEST_NUMBER = 9


def is_letter(sign):
    """True for a small letter."""
    return "a" <= sign <= "z"


def is_figure(sign):
    """True for a figure."""
    return "0" <= sign <= "9"


def run_end(row, at):
    """The place behind the run of letters or of figures that begins at a place, or behind the one sign there."""
    end = at + 1
    while end < len(row) and is_letter(row[at]) and is_letter(row[end]):
        end += 1
    while end < len(row) and is_figure(row[at]) and is_figure(row[end]):
        end += 1
    return end


def letters_piece(run):
    """The piece that a run of letters is, or None where it is too long."""
    if run in ROW_FORMS or run in EXPR_FORMS:
        return ("word", run)
    if len(run) <= LONGEST_NAME:
        return ("name", run)
    return None


def figures_piece(run):
    """The piece that a run of figures is, or None where it is no number."""
    if len(run) > LONGEST_NUMBER or (run[0] == "0" and run != "0"):
        return None
    return ("number", int(run))


def piece_of(run):
    """The piece that a run or a sign is, a pair of its kind and its name, number or word; None where it is none."""
    if is_letter(run[0]):
        return letters_piece(run)
    if is_figure(run[0]):
        return figures_piece(run)
    if run in SIGNS:
        return (run, run)
    return None


def pieces_of(row):
    """The list of a row's pieces, or None where something in it is no piece."""
    pieces = []
    at = 0
    while at < len(row):
        end = run_end(row, at)
        if row[at] != " ":
            piece = piece_of(row[at:end])
            if piece is None:
                return None
            pieces.append(piece)
        at = end
    return pieces
