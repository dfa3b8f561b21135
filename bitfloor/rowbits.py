"""The bits that gates have for all rows of bits at some leaves, those of a gate in one number."""

from bitfloor.cutting import gates_down, is_source
from bitfloor.nets import feeds_of


def whole_bits(count):
    """The number that has all bits, one for each row of so many leaves."""
    return (1 << (1 << count)) - 1


def leaf_bits(place, count):
    """The bits of the leaf at this place among so many: bit i is bit place of i."""
    return sum([(number >> place & 1) << number for number in range(1 << count)])


def gate_bits(word, fed, whole):
    """The bits of a gate that is no in or keep gate whose feeds have these bits; whole has all bits."""
    if word == "zero":
        return 0
    if word == "one":
        return whole
    if word == "not":
        return whole ^ fed[0]
    if word == "and":
        return fed[0] & fed[1]
    if word == "or":
        return fed[0] | fed[1]
    if word == "xor":
        return fed[0] ^ fed[1]
    return fed[0] & fed[1] | (whole ^ fed[0]) & fed[2]


def bits_from(net, gate, known, whole):
    """A gate's bits reckoned from a dict of gates' bits, None where these gates do not shut it off."""
    bits = dict(known)
    for number in gates_down(net, gate, known):
        # a source stands ahead of all gates that it feeds, so nothing is reckoned from one that is not known
        if is_source(net.gates[number]):
            return None
        feeds = feeds_of(net.gates[number])
        bits[number] = gate_bits(net.gates[number][0], [bits[feed] for feed in feeds], whole)
    return bits[gate]
