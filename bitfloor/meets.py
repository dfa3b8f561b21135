"""Papers of meets found for two nets."""

from bitfloor.cutting import feeds_within
from bitfloor.meetscheck import MOST_LEAVES, alike_holds, counts_agree, meet_holds
from bitfloor.nets import ins_of, keeps_of


class Meets:
    """A paper of meets as it grows, and for each net the first tuple of each gate that may be a leaf's."""

    def __init__(self, one, other):
        self.nets = (one, other)
        self.paper = []
        self.firsts = ({}, {})
        self.together = {}

    def put(self, pair, leaves):
        """Put a tuple behind the others."""
        self.together[pair] = len(self.paper)
        self.paper.append((pair[0], pair[1], leaves))

    def let_lead(self, pair):
        """Let the gates of a tuple be leaves', where they are none yet; zero and one gates never are."""
        for side in (0, 1):
            if self.nets[side].gates[pair[side]][0] not in ("zero", "one"):
                self.firsts[side].setdefault(pair[side], self.together[pair])

    def leaves_below(self, side, gate):
        """The tuples, rising, of the gates to which the feeds of a gate of one net, gone down, first come."""
        net = self.nets[side]
        firsts = self.firsts[side]
        leaves = {}
        seen = {}
        waiting = feeds_within(net, gate)
        while len(waiting) > 0:
            number = waiting.pop()
            if number in firsts:
                leaves[firsts[number]] = True
            elif number not in seen:
                seen[number] = True
                waiting.extend(feeds_within(net, number))
        return sorted(leaves)

    def is_shown(self, pair):
        """True where two gates stand in a tuple together, which is put there where it can be shown."""
        if pair in self.together:
            return True
        below = [self.leaves_below(side, gate) for side, gate in enumerate(pair)]
        for leaves in (sorted(set(below[0] + below[1])), below[0], below[1]):
            if len(leaves) > MOST_LEAVES:
                continue
            if meet_holds(self.nets[0], self.nets[1], self.paper, (pair[0], pair[1], leaves)):
                self.put(pair, leaves)
                return True
        return False


def keep_pairs(one, other, pairs):
    """The pairs of keep gates that meet: as the pairs tell, or in order where they tell none; None where some lack."""
    keeps = keeps_of(one)
    others = keeps_of(other)
    told = dict([pair for pair in pairs if pair[0] in keeps and pair[1] in others])
    if len(told) == 0:
        return list(zip(keeps, others))
    if len(told) != len(keeps):
        return None
    return [(number, told[number]) for number in keeps]


def end_pairs(one, other, kept):
    """The pairs that must stand in a tuple together: what feeds each two keep gates, and each two outs."""
    feeds = [(one.gates[number][2], other.gates[other_number][2]) for number, other_number in kept]
    return feeds + list(zip(one.outs, other.outs))


def meets_of(one, other, pairs):
    """A paper of meets in which each of the pairs stands together, None where none is found."""
    wanted = [tuple(pair) for pair in pairs]
    kept = keep_pairs(one, other, wanted)
    if kept is None or not counts_agree(one, other):
        return None
    meets = Meets(one, other)
    for pair in list(zip(ins_of(one), ins_of(other))) + kept:
        meets.put(pair, [])
        meets.let_lead(pair)
    for pair in wanted:
        if not meets.is_shown(pair):
            return None
        meets.let_lead(pair)
    for pair in end_pairs(one, other, kept):
        if not meets.is_shown(pair):
            return None
    return meets.paper if alike_holds(one, other, meets.paper) else None
