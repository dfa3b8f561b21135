"""The layers of a net's gates, with a paper that shows that they are the least."""

from bitfloor.cutting import feeds_within, gates_down, is_source

END = "end"
MOST = 4


class Stream:
    """Paths from the sources to a gate, one at most through each low gate, whose layer is less than the bound.

    A low gate is two nodes, 2 * number where it is come to and 2 * number + 1 where it is left; the gate and the
    others that lead to it are the one node END. A way that a path goes is turned, so that a later path may take
    it back.
    """

    def __init__(self, net, layers, gate, bound):
        above = gates_down(net, gate, [])
        self.low = [number for number in above if number != gate and layers[number] < bound]
        self.starts = [2 * number for number in self.low if is_source(net.gates[number])]
        self.ways = {END: {}}
        self.ends = {}
        for number in self.low:
            self.ways[2 * number] = {2 * number + 1: True}
            self.ways[2 * number + 1] = {}
        for number in above:
            for feed in feeds_within(net, number):
                self.lead(feed, number)

    def lead(self, feed, number):
        """Lay the way from a gate, where it is a low one, to one that it feeds."""
        if 2 * feed not in self.ways:
            return
        if 2 * number in self.ways:
            self.ways[2 * feed + 1][2 * number] = True
        else:
            self.ways[2 * feed + 1][END] = True
            self.ends[feed] = number

    def nodes_come_to(self):
        """The dict of the nodes that can be come to, each with the node ahead of it, None for a start."""
        came = dict([(node, None) for node in self.starts])
        waiting = list(self.starts)
        while len(waiting) > 0 and END not in came:
            node = waiting.pop()
            for other in self.ways[node]:
                if other not in came:
                    came[other] = node
                    waiting.append(other)
        return came

    def turn(self, came):
        """Turn the ways by which the end was come to."""
        node = END
        while came[node] is not None:
            ahead = came[node]
            self.ways[ahead].pop(node)
            self.ways[node][ahead] = True
            node = ahead

    def path_to(self, number):
        """The path that was laid to this low gate and from it to the end."""
        path = [self.ends[number], number]
        # of a gate on a path only the way back is left where it is come to
        back = list(self.ways[2 * number])
        while len(back) > 0:
            path.append(back[0] // 2)
            back = list(self.ways[2 * path[-1]])
        return list(reversed(path))

    def cut_or_paths(self):
        """The pair of at most four low gates that shut the gate off and no paths, or of None and five paths."""
        for count in range(MOST + 1):
            came = self.nodes_come_to()
            if END not in came:
                return ([number for number in self.low if 2 * number in came and 2 * number + 1 not in came], [])
            self.turn(came)
        return (None, [self.path_to(node // 2) for node in self.ways[END]])


def copied_paths(paths):
    """The same paths, in lists of their own."""
    return [list(path) for path in paths]


def layer_and_reason(net, layers, paper, number):
    """The pair of the layer of a gate that is no source and its part of the paper."""
    feeds = feeds_within(net, number)
    # by its feeds a gate is one layer above the highest of them, so only that one's layer is to be tried
    least = max([layers[feed] for feed in feeds] + [1])
    found = Stream(net, layers, number, least).cut_or_paths()
    if found[0] is None:
        return (least + 1, (Stream(net, layers, number, least + 1).cut_or_paths()[0], found[1]))
    paths = []
    for feed in feeds:
        if layers[feed] == least:
            # what shows that no less will do for a feed shows it for the gate too
            paths = copied_paths(paper[feed][1])
    return (least, (found[0], paths))


def layers_of(net):
    """The pair of the list of all gates' layers and the paper of layers."""
    layers = []
    paper = []
    for number, gate in enumerate(net.gates):
        if is_source(gate):
            layers.append(0)
            paper.append(None)
        else:
            told = layer_and_reason(net, layers, paper, number)
            layers.append(told[0])
            paper.append(told[1])
    return (layers, paper)
