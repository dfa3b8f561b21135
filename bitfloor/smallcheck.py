"""Whether a paper of shrinking shows that a small net tells what a net tells."""

from bitfloor.kinds import is_below, is_listed, is_pair
from bitfloor.nets import feeds_of, ins_of, is_gate


def is_zero(gates, number):
    """True for the number of a zero gate."""
    return gates[number] == ("zero",)


def is_one(gates, number):
    """True for the number of a one gate."""
    return gates[number] == ("one",)


def are_opposed(gates, number, other):
    """True where one of both is the not of the other."""
    return gates[number] == ("not", other) or gates[other] == ("not", number)


def not_holds(gates, why, it, feeds):
    """Whether the number stands for a not of the feed by this why."""
    x = feeds[0]
    if why == "inner":
        return gates[x] == ("not", it)
    if why == "one":
        return is_zero(gates, x) and is_one(gates, it)
    if why == "zero":
        return is_one(gates, x) and is_zero(gates, it)
    return False


def and_holds(gates, why, it, feeds):
    """Whether the number stands for an and of the feeds by this why."""
    x = feeds[0]
    y = feeds[1]
    if why == "first":
        return it == x and (is_one(gates, y) or y == x)
    if why == "second":
        return it == y and is_one(gates, x)
    if why == "zero":
        return is_zero(gates, it) and (is_zero(gates, x) or is_zero(gates, y) or are_opposed(gates, x, y))
    return False


def or_holds(gates, why, it, feeds):
    """Whether the number stands for an or of the feeds by this why."""
    x = feeds[0]
    y = feeds[1]
    if why == "first":
        return it == x and (is_zero(gates, y) or y == x)
    if why == "second":
        return it == y and is_zero(gates, x)
    if why == "one":
        return is_one(gates, it) and (is_one(gates, x) or is_one(gates, y) or are_opposed(gates, x, y))
    return False


def xor_holds(gates, why, it, feeds):
    """Whether the number stands for a xor of the feeds by this why."""
    x = feeds[0]
    y = feeds[1]
    if why == "first":
        return it == x and is_zero(gates, y)
    if why == "second":
        return it == y and is_zero(gates, x)
    if why == "zero":
        return is_zero(gates, it) and x == y
    if why == "one":
        return is_one(gates, it) and are_opposed(gates, x, y)
    if why == "not" and is_one(gates, y) and are_opposed(gates, it, x):
        return True
    return why == "not" and is_one(gates, x) and are_opposed(gates, it, y)


def pick_holds(gates, why, it, feeds):
    """Whether the number stands for a pick of the feeds by this why."""
    x = feeds[0]
    y = feeds[1]
    z = feeds[2]
    if why == "second":
        return it == y and (is_one(gates, x) or y == z)
    if why == "third":
        return it == z and is_zero(gates, x)
    if why == "first":
        return it == x and is_one(gates, y) and is_zero(gates, z)
    if why == "not":
        return are_opposed(gates, it, x) and is_zero(gates, y) and is_one(gates, z)
    return False


RULES = {
    "not": not_holds,
    "and": and_holds,
    "or": or_holds,
    "xor": xor_holds,
    "pick": pick_holds,
}


def pair_holds(gates, gate, it, why, feeds):
    """Whether the number stands for a gate that is no in gate, its feeds standing for these numbers, by this why."""
    word = gate[0]
    if word == "keep":
        return why == "keep" and gates[it] == ("keep", gate[1], feeds[0])
    if why == "same":
        return gates[it] == tuple([word] + feeds)
    if why == "turned" and word in ("and", "or", "xor"):
        return gates[it] == (word, feeds[1], feeds[0])
    return word in RULES and RULES[word](gates, why, it, feeds)


def with_lost(small, lost):
    """The small net's gates and the lost ones behind them, None where the lost ones are not as told."""
    if not is_listed(lost):
        return None
    gates = list(small.gates)
    total = len(gates) + len(lost)
    for thing in lost:
        gate = tuple(thing) if is_listed(thing) else None
        if not is_gate(gate, len(gates), total) or gate[0] == "in":
            return None
        gates.append(gate)
    return gates


def are_pairs(pairs, count, total):
    """True for a list of so many things, each None or a pair of a number below the total and a why."""
    if not is_listed(pairs) or len(pairs) != count:
        return False
    for pair in pairs:
        if pair is not None and not (is_pair(pair) and is_below(pair[0], total)):
            return False
    return True


def ins_hold(net, small, pairs):
    """Whether each in gate stands for the small net's one at its place."""
    ins = ins_of(net)
    small_ins = ins_of(small)
    if len(ins) != len(small_ins):
        return False
    for number, small_number in zip(ins, small_ins):
        if pairs[number] is None or tuple(pairs[number]) != (small_number, "in"):
            return False
    return True


def outs_hold(net, small, pairs):
    """Whether each out stands for the small net's one at its place."""
    if len(net.outs) != len(small.outs):
        return False
    for out, small_out in zip(net.outs, small.outs):
        if pairs[out] is None or pairs[out][0] != small_out:
            return False
    return True


def gates_hold(net, gates, pairs):
    """Whether each other pair holds by its why."""
    for gate, pair in zip(net.gates, pairs):
        if gate[0] == "in" or pair is None:
            continue
        feed_pairs = [pairs[feed] for feed in feeds_of(gate)]
        if None in feed_pairs:
            return False
        if not pair_holds(gates, gate, pair[0], pair[1], [feed_pair[0] for feed_pair in feed_pairs]):
            return False
    return True


def small_holds(net, small, paper):
    """True where the paper shows that both nets tell the same outs at every row of inputs."""
    if not is_pair(paper):
        return False
    gates = with_lost(small, paper[0])
    if gates is None or not are_pairs(paper[1], len(net.gates), len(gates)):
        return False
    pairs = paper[1]
    return ins_hold(net, small, pairs) and outs_hold(net, small, pairs) and gates_hold(net, gates, pairs)
