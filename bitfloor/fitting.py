"""Nets fitted to tables of four leaves."""

from bitfloor.cutting import gates_down, is_source
from bitfloor.layers import layers_of
from bitfloor.nets import feeds_of, ins_of, keeps_of
from bitfloor.tables import Tables


def leaf_bits(place, count):
    """The bits of a table of so many leaves that tells what its leaf at this place has."""
    return sum([(number >> place & 1) << number for number in range(1 << count)])


def gate_bits(word, fed, whole):
    """The bits of a gate's table whose feeds have these tables' bits; whole has all bits."""
    if word == "zero":
        return 0
    if word == "one":
        return whole
    if word == "not":
        return whole ^ fed[0]
    if word == "and":
        return fed[0] & fed[1]
    if word == "or":
        return fed[0] | fed[1]
    if word == "xor":
        return fed[0] ^ fed[1]
    return fed[0] & fed[1] | (whole ^ fed[0]) & fed[2]


def bits_from(net, number, leaves):
    """The bits of a gate's table, reckoned from the gates that are its leaves."""
    whole = (1 << (1 << len(leaves))) - 1
    known = dict([(leaf, leaf_bits(place, len(leaves))) for place, leaf in enumerate(leaves)])
    for inner in gates_down(net, number, leaves):
        gate = net.gates[inner]
        known[inner] = gate_bits(gate[0], [known[feed] for feed in feeds_of(gate)], whole)
    return known[number]


def wanted_gates(net, paper):
    """The gates, rising, that need a table: outs, feeds of keep gates and all that shuts one of these off."""
    waiting = list(net.outs) + [net.gates[number][2] for number in keeps_of(net)]
    wanted = {}
    while len(waiting) > 0:
        number = waiting.pop()
        if number not in wanted and not is_source(net.gates[number]):
            wanted[number] = True
            waiting.extend(paper[number][0])
    return sorted(wanted)


def places_of(net, wanted):
    """The dict of the places of sources and of gates that have a table."""
    places = {}
    for word, numbers in (("in", ins_of(net)), ("keep", keeps_of(net)), ("table", wanted)):
        for count, number in enumerate(numbers):
            places[number] = (word, count)
    return places


def fitted(net):
    """The pair of tables that tell what the net tells and the list of their gates' numbers."""
    paper = layers_of(net)[1]
    wanted = wanted_gates(net, paper)
    places = places_of(net, wanted)
    tables = []
    for number in wanted:
        leaves = paper[number][0]
        tables.append(([places[leaf] for leaf in leaves], bits_from(net, number, leaves)))
    keeps = [(net.gates[number][1], places[net.gates[number][2]]) for number in keeps_of(net)]
    outs = [places[out] for out in net.outs]
    return (Tables(len(ins_of(net)), tables, keeps, outs), wanted)
