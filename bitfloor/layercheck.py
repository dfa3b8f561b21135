"""Whether a paper of layers shows that they are a net's layers."""

from bitfloor.cutting import gates_down, is_source, shuts_off
from bitfloor.kinds import is_below, is_listed, is_pair, is_whole
from bitfloor.nets import feeds_of


def are_gates(net, things):
    """True for a list of gates' numbers."""
    return is_listed(things) and all([is_below(thing, len(net.gates)) for thing in things])


def are_layers(net, layers):
    """True for a list of a whole number for each gate."""
    return is_listed(layers) and len(layers) == len(net.gates) and all([is_whole(layer) for layer in layers])


def set_holds(net, layers, number, gates):
    """Whether these are at most four other gates that shut the gate off, just one layer beneath it."""
    if not are_gates(net, gates) or len(gates) > 4 or number in gates:
        return False
    greatest = max([layers[gate] for gate in gates], default=0)
    return greatest == layers[number] - 1 and shuts_off(net, gates, number)


def leads_on(net, path):
    """Whether the gates begin at a source and each feeds the next, which is no source."""
    if not is_source(net.gates[path[0]]):
        return False
    for feed, number in zip(path, path[1:]):
        gate = net.gates[number]
        if is_source(gate) or feed not in feeds_of(gate):
            return False
    return True


def path_holds(net, layers, number, path):
    """Whether a path comes through gates more than one layer beneath the gate to the first one that is not so low."""
    if not are_gates(net, path) or len(path) == 0 or not leads_on(net, path):
        return False
    if path[-1] not in gates_down(net, number, []):
        return False
    bound = layers[number] - 1
    return layers[path[-1]] >= bound and all([layers[gate] < bound for gate in path[:-1]])


def paths_hold(net, layers, number, paths):
    """Whether these are no paths at layer 1, and elsewhere five that share last gates alone."""
    if not is_listed(paths):
        return False
    if layers[number] == 1:
        return len(paths) == 0
    if len(paths) != 5 or not all([path_holds(net, layers, number, path) for path in paths]):
        return False
    # a last gate is too high to be one of those that are not last
    passed = []
    for path in paths:
        passed.extend(path[:-1])
    return len(set(passed)) == len(passed)


def gate_holds(net, layers, number, reason):
    """Whether a gate's part of the paper shows its layer."""
    if is_source(net.gates[number]):
        return layers[number] == 0 and reason is None
    if not is_pair(reason):
        return False
    return set_holds(net, layers, number, reason[0]) and paths_hold(net, layers, number, reason[1])


def layers_hold(net, layers, paper):
    """True where the paper shows that each gate has the layer told, and no less would do."""
    if not are_layers(net, layers) or not is_listed(paper) or len(paper) != len(net.gates):
        return False
    return all([gate_holds(net, layers, number, reason) for number, reason in enumerate(paper)])
