"""Bitfloor: circuits told as text, made to one row of bits for a floor of cells."""
