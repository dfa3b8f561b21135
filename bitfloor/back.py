"""The way back from a row of bits to tables."""

from bitfloor.boards import Board
from bitfloor.floors import cells_of
from bitfloor.packs import SILENCE, loose_order, loose_sources
from bitfloor.tables import Tables, table_bit


def heard_table(block):
    """The pair of the sources that a block hears and the bits of its table when all others have 0."""
    heard = [place for place, source in enumerate(block[0]) if source != SILENCE]
    bits = 0
    for number in range(1 << len(heard)):
        fed = [0] * len(block[0])
        for count, place in enumerate(heard):
            fed[place] = number >> count & 1
        bits |= table_bit(block[1], fed) << number
    return ([block[0][place] for place in heard], bits)


def wanted_cells(board):
    """The cells that need a table, each behind those that feed it: kept ones last, others where they lead on."""
    kept = [number for number, block in enumerate(board.blocks) if block[2] == 1]
    wanted = dict([(number, True) for word, number in board.heard if word == "block"])
    for number in kept:
        wanted.update(dict([(source, True) for source in loose_sources(board.blocks, number)]))
    order = loose_order(board.blocks)
    for number in reversed(order):
        if number in wanted:
            wanted.update(dict([(source, True) for source in loose_sources(board.blocks, number)]))
    return [number for number in order if number in wanted] + kept


def places_by_source(board, wanted):
    """The dict of the places that have what ins and cells tell; nobody's is the table behind all cells' ones."""
    places = {SILENCE: ("table", len(wanted))}
    for number in range(board.ins):
        places[("in", number)] = ("in", number)
    for count, number in enumerate(wanted):
        places[("block", number)] = ("table", count)
    kept = [number for number in wanted if board.blocks[number][2] == 1]
    for count, number in enumerate(kept):
        places[("block", number)] = ("keep", count)
    return places


def read_back(bits):
    """The pair of tables that tell what the board of these bits tells and the list of their cells."""
    board = Board(bits)
    wanted = wanted_cells(board)
    places = places_by_source(board, wanted)
    cells = cells_of(board.floor)
    tables = []
    keeps = []
    for count, number in enumerate(wanted):
        block = board.blocks[number]
        table = heard_table(block)
        tables.append(([places[source] for source in table[0]], table[1]))
        if block[2] == 1:
            keeps.append((block[3], ("table", count)))
    found = [cells[number] for number in wanted]
    if SILENCE in board.heard:
        tables.append(([], 0))
        found.append(None)
    return (Tables(board.ins, tables, keeps, [places[source] for source in board.heard]), found)
