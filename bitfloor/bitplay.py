"""Boards played beat by beat, from their rows of bits alone."""

from bitfloor.boards import Board
from bitfloor.packplay import BlockPlayer


class BitPlayer(BlockPlayer):
    """A row of bits in play; its blocks are the cells, row by row."""

    def __init__(self, bits):
        board = Board(bits)
        BlockPlayer.__init__(self, board.ins, board.blocks, board.heard)
