"""From a text to bits, and from bits and rows of text to an answer."""

from bitfloor.bitplay import BitPlayer
from bitfloor.errors import NoText
from bitfloor.floors import Floor
from bitfloor.making import made_whole

MOST_STEPS = 100
MOST_ROUNDS = 100


def bits_text(text, rows, columns, tracks):
    """The row of bits that a text becomes on a floor of these sizes."""
    floor = Floor(rows, columns, tracks)
    return made_whole(text, floor, MOST_STEPS, MOST_ROUNDS)[-1]


def row_bits(row_text, line, length):
    """The list of so many bits that a row of text tells."""
    if len(row_text) != length or any([sign not in ("0", "1") for sign in row_text]):
        raise NoText(line)
    return [int(sign) for sign in row_text]


def played_text(bits, rows_text):
    """The rows of the outs' bits, one for each row of the ins' bits."""
    player = BitPlayer(bits)
    rows = [row_bits(row_text, line, player.ins) for line, row_text in enumerate(rows_text.split("\n"))]
    return "\n".join(["".join([str(bit) for bit in player.beat(row)]) for row in rows])
