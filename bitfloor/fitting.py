"""Nets fitted to tables of four leaves."""

from bitfloor.cutting import is_source
from bitfloor.layers import layers_of
from bitfloor.nets import ins_of, keeps_of
from bitfloor.rowbits import bits_from, leaf_bits, whole_bits
from bitfloor.tables import Tables


def table_bits(net, number, leaves):
    """The bits of a gate's table, reckoned from the gates that are its leaves."""
    known = dict([(leaf, leaf_bits(place, len(leaves))) for place, leaf in enumerate(leaves)])
    return bits_from(net, number, known, whole_bits(len(leaves)))


def wanted_gates(net, paper):
    """The gates, rising, that need a table: outs, feeds of keep gates and all that shuts one of these off."""
    waiting = list(net.outs) + [net.gates[number][2] for number in keeps_of(net)]
    wanted = {}
    while len(waiting) > 0:
        number = waiting.pop()
        if number not in wanted and not is_source(net.gates[number]):
            wanted[number] = True
            waiting.extend(paper[number][0])
    return sorted(wanted)


def places_of(net, wanted):
    """The dict of the places of sources and of gates that have a table."""
    places = {}
    for word, numbers in (("in", ins_of(net)), ("keep", keeps_of(net)), ("table", wanted)):
        for count, number in enumerate(numbers):
            places[number] = (word, count)
    return places


def fitted(net):
    """The pair of tables that tell what the net tells and the list of their gates' numbers."""
    paper = layers_of(net)[1]
    wanted = wanted_gates(net, paper)
    places = places_of(net, wanted)
    tables = []
    for number in wanted:
        leaves = paper[number][0]
        tables.append(([places[leaf] for leaf in leaves], table_bits(net, number, leaves)))
    keeps = [(net.gates[number][1], places[net.gates[number][2]]) for number in keeps_of(net)]
    outs = [places[out] for out in net.outs]
    return (Tables(len(ins_of(net)), tables, keeps, outs), wanted)
