"""Whether a paper of meets shows that two nets tell the same."""

from bitfloor.kinds import is_below, is_listed
from bitfloor.nets import ins_of, keeps_of
from bitfloor.rowbits import bits_from, leaf_bits, whole_bits

MOST_LEAVES = 8


def is_meet(one, other, number, thing):
    """True for a gate of each net and numbers, at most eight, of tuples ahead of the one with this number."""
    if not is_listed(thing) or len(thing) != 3 or not is_listed(thing[2]):
        return False
    if not is_below(thing[0], len(one.gates)) or not is_below(thing[1], len(other.gates)):
        return False
    return len(thing[2]) <= MOST_LEAVES and all([is_below(leaf, number) for leaf in thing[2]])


def are_meets(one, other, paper):
    """True for a list of such tuples."""
    return is_listed(paper) and all([is_meet(one, other, number, thing) for number, thing in enumerate(paper)])


def counts_agree(one, other):
    """Whether both nets have as many in gates, keep gates and outs."""
    if len(ins_of(one)) != len(ins_of(other)) or len(keeps_of(one)) != len(keeps_of(other)):
        return False
    return len(one.outs) == len(other.outs)


def sources_meet(one, other, beginning):
    """Whether the paper's beginning has the in gates in order and each keep gate with one of its first value."""
    ins = ins_of(one)
    keeps = keeps_of(one)
    if [meet[0] for meet in beginning] != ins + keeps or any([len(meet[2]) > 0 for meet in beginning]):
        return False
    others = [meet[1] for meet in beginning]
    if others[:len(ins)] != ins_of(other) or sorted(others[len(ins):]) != keeps_of(other):
        return False
    firsts = [one.gates[number][1] for number in keeps]
    return firsts == [other.gates[number][1] for number in others[len(ins):]]


def known_bits(gates):
    """The pair of the dict of the leaves' gates' bits and of the rows in which no gate has two bits."""
    rows = whole_bits(len(gates))
    known = {}
    for place, gate in enumerate(gates):
        bits = leaf_bits(place, len(gates))
        if gate in known:
            # both bits of the gate are alike in the other rows
            rows = rows & ~(known[gate] ^ bits)
        known[gate] = bits
    return (known, rows)


def meet_holds(one, other, paper, meet):
    """Whether both gates of a tuple, reckoned from its leaves, which shut them off, have the same bits."""
    whole = whole_bits(len(meet[2]))
    told = known_bits([paper[leaf][0] for leaf in meet[2]])
    other_told = known_bits([paper[leaf][1] for leaf in meet[2]])
    bits = bits_from(one, meet[0], told[0], whole)
    other_bits = bits_from(other, meet[1], other_told[0], whole)
    if bits is None or other_bits is None:
        return False
    return (bits ^ other_bits) & told[1] & other_told[1] == 0


def ends_meet(one, other, paper, beginning):
    """Whether each two outs, and what feeds each two keep gates, stand in a tuple together."""
    together = dict([((meet[0], meet[1]), True) for meet in paper])
    ends = list(zip(one.outs, other.outs))
    for meet in beginning[len(ins_of(one)):]:
        ends.append((one.gates[meet[0]][2], other.gates[meet[1]][2]))
    return all([pair in together for pair in ends])


def alike_holds(one, other, paper):
    """True where the paper shows that both nets tell the same outs at every row of inputs."""
    if not counts_agree(one, other) or not are_meets(one, other, paper):
        return False
    count = len(ins_of(one)) + len(keeps_of(one))
    if not sources_meet(one, other, paper[:count]):
        return False
    if not all([meet_holds(one, other, paper, meet) for meet in paper[count:]]):
        return False
    return ends_meet(one, other, paper, paper[:count])
