"""Rows of gates within a beat, and gates that shut a gate off."""

from bitfloor.nets import feeds_of


def is_source(gate):
    """True for an in or a keep gate."""
    return gate[0] in ("in", "keep")


def feeds_within(net, number):
    """The numbers of the gates that feed a gate within a beat, in which a keep gate is fed nothing."""
    gate = net.gates[number]
    return [] if is_source(gate) else feeds_of(gate)


def gates_down(net, gate, stops):
    """The gates, rising, on all rows that begin at a gate and go down its feeds, each row only down to a stop."""
    stopped = dict([(number, True) for number in stops])
    seen = {}
    waiting = [gate]
    while len(waiting) > 0:
        number = waiting.pop()
        if number not in seen and number not in stopped:
            seen[number] = True
            waiting.extend(feeds_within(net, number))
    return sorted(seen)


def shuts_off(net, gates, gate):
    """True where each row of gates from a gate that is no source down to a source has one of the gates."""
    return not any([is_source(net.gates[number]) for number in gates_down(net, gate, gates)])
