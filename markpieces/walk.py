"""A walk through a tree that is asked node by node."""


class Walk:
    """Tells the ways of a tree one by one, each a tuple of depth labels.

    edges is a function of a node. trail has, of the way that was told last, for each of its
    labels (the edges at that node, the number of the one that was taken); asked is how often
    edges was asked for the ways that were told.
    """

    def __init__(self, edges, depth):
        self.edges = edges
        self.depth = depth
        self.trail = None
        self.over = False
        self.asked = 0

    def more(self):
        """The labels of the next way; None where there is none left."""
        if self.over:
            return None
        # Whatever edges raises goes through here, so nothing that is kept is changed ahead of that.
        begun = [] if self.trail is None else turned_off(self.trail)
        trail = None if begun is None else lengthened(begun, self.edges, self.depth)
        if trail is None:
            self.over = True
            return None
        self.asked += self.depth - len(begun)
        self.trail = trail
        return tuple([edges[number][0] for edges, number in trail])


def turned_off(trail):
    """The trail up to its last edge that has another behind it, and that one; None where none has."""
    for at in range(len(trail) - 1, -1, -1):
        edges, number = trail[at]
        if number + 1 < len(edges):
            return [*trail[:at], (edges, number + 1)]
    return None


def lengthened(trail, ask, depth):
    """The trail with first edges behind it, up to that depth; None where a node has none."""
    trail = list(trail)
    node = node_behind(trail)
    while len(trail) < depth:
        edges = ask(node)
        if len(edges) == 0:
            return None
        trail.append((edges, 0))
        node = edges[0][1]
    return trail


def node_behind(trail):
    """The node to which the trail comes: None is the first one."""
    if len(trail) == 0:
        return None
    edges, number = trail[-1]
    return edges[number][1]


def ways_left(walk):
    """Whether a way is left; of a walk that hasn't begun this asks edges of the first node."""
    if walk.trail is not None:
        return turned_off(walk.trail) is not None
    ask = walk.edges
    return walk.depth == 0 or len(ask(None)) > 0
