"""Downsets: the strings that all logs of some chain of so many logs contain."""

from gaprules.errors import LimitExceeded
from gaprules.machines import machine_of_kind, other_kind, require_pair
from gaprules.signs import SIGNS

MOST_RESTS = 45


class Downset:
    """The set of the strings that all logs of some chain of so many logs contain."""

    def __init__(self, pair, kind, depth):
        self.rests = Levels(pair).rests_of(kind, depth)

    def holds(self, string):
        """Return whether the string is in the set."""
        return self.rests.has(string)

    def is_empty(self):
        """Return whether no string is in the set."""
        return not self.rests.has("")

    def rest_count(self):
        """Return the number of rests, the one that holds no string included."""
        return len(self.rests.rows)

    def same(self, string, other):
        """Return whether the rests after the two strings are the same set."""
        return self.rests.after(0, string) == self.rests.after(0, other)


class Rests:
    """The rests of a downset, by their numbers; 0 is the whole set."""

    def __init__(self, rows, filled):
        # A rest's row tells the numbers of the rests behind each sign; a rest is filled if it
        # holds a string (the empty one then, too).
        self.rows = rows
        self.filled = filled

    def after(self, rest, string):
        """Return the number of the rest that the string leaves of the rest of this number."""
        for sign in string:
            rest = self.rows[rest][SIGNS.index(sign)]
        return rest

    def has(self, string):
        """Return whether the string is in the set."""
        return self.filled[self.after(0, string)]


class Levels:
    """The downsets of a pair of machines as they are; each is built once, when it is asked for."""

    def __init__(self, pair):
        require_pair(pair)
        self.machines = pair
        self.built = {}

    def rests_of(self, kind, depth):
        """Return the rests of D_kind(depth); raise if these are too many.

        The sets from which it is built are made on the way, so those are asked, too.
        """
        key = (kind, depth)
        if key not in self.built:
            self.built[key] = self._build(kind, depth)
        return self.built[key]

    def first_empty(self, kind, most):
        """Return the first depth from 1 to most at which the set of the kind is empty, or None."""
        for depth in range(1, most + 1):
            if not self.rests_of(kind, depth).has(""):
                return depth
        return None

    def _build(self, kind, depth):
        machine = machine_of_kind(self.machines, kind)
        if depth == 0:
            return Rests([[0] * machine.signs], [True])
        inner = self.rests_of(other_kind(kind), depth - 1)
        first, leads = downwards(machine, leads_within(machine, inner.rows), inner.filled)
        rows, filled = subset_rows(first, leads)
        return merged(rows, filled)


def leads_within(machine, rows):
    """Return for each sign and node the mask of the nodes to which the sign leads from there.

    A node is a state of the machine with a rest of the set, a mask has a bit for each node.
    """
    many = len(rows)
    leads = [[0] * (machine.states * many) for _ in range(machine.signs)]
    for origin, sign, target in machine.edges():
        at = SIGNS.index(sign)
        for rest in range(many):
            behind = node_of(target, rows[rest][at], many)
            leads[at][node_of(origin, rest, many)] |= 1 << behind
    return leads


def downwards(machine, leads, filled):
    """Return the mask of the first nodes, and the leads, for all that logs in the set contain."""
    many = len(filled)
    ends = sum([
        1 << node_of(state, rest, many)
        for state in machine.ends() for rest in range(many) if filled[rest]
    ])
    # Any signs of a log may be left out, so a node brings all nodes that strings lead to from
    # there; but a node from which no string leads to an end belongs to no log in the set.
    reach = reach_of(leads)
    useful = sum([1 << node for node in range(len(reach)) if reach[node] & ends])
    reach = [nodes & useful for nodes in reach]
    first = joined(reach, [node_of(state, 0, many) for state in machine.starts()])
    return first, [[joined(reach, members(nodes)) for nodes in lead] for lead in leads]


def reach_of(leads):
    """Return for each node the mask of the nodes that strings lead to from there, itself included."""
    count = len(leads[0])
    reach = [1 << node for node in range(count)]
    for lead in leads:
        reach = [nodes | behind for nodes, behind in zip(reach, lead)]
    for middle in range(count):
        for node in range(count):
            if reach[node] >> middle & 1:
                reach[node] |= reach[middle]
    return reach


def subset_rows(first, leads):
    """Return rows and filled marks for the masks that strings lead to from the first mask."""
    numbers = {first: 0}
    masks = [first]
    rows = []
    while len(rows) < len(masks):
        nodes = members(masks[len(rows)])
        row = []
        for lead in leads:
            mask = joined(lead, nodes)
            if mask not in numbers:
                numbers[mask] = len(masks)
                masks.append(mask)
            row.append(numbers[mask])
        rows.append(row)
    return rows, [mask != 0 for mask in masks]


def merged(rows, filled):
    """Return the rests, of which equal ones are made one; raise if these are too many."""
    # Different masks may leave the same strings: they are one rest until a string tells them
    # apart, and each round takes strings of one sign more.
    classes = filled
    many = 0
    while len(set(classes)) > many:
        many = len(set(classes))
        if many > MOST_RESTS:
            raise LimitExceeded(MOST_RESTS)
        classes = finer(classes, rows)
    kept = [classes.index(name) for name in range(many)]
    return Rests([[classes[behind] for behind in rows[at]] for at in kept], [filled[at] for at in kept])


def finer(classes, rows):
    """Return the classes split by the classes behind each sign, numbered as they first occur."""
    numbers = {}
    names = []
    for name, row in zip(classes, rows):
        key = (name, tuple([classes[behind] for behind in row]))
        names.append(numbers.setdefault(key, len(numbers)))
    return names


def node_of(state, rest, many):
    """Return the number of the node of this state and this rest, of so many rests."""
    return state * many + rest


def members(mask):
    """Return the list of the nodes whose bits the mask has."""
    nodes = []
    while mask:
        lowest = mask & -mask
        nodes.append(lowest.bit_length() - 1)
        mask ^= lowest
    return nodes


def joined(masks, nodes):
    """Return the mask of all that the masks of these nodes have."""
    union = 0
    for node in nodes:
        union |= masks[node]
    return union
