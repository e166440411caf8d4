"""Walks: the nodes that strings lead to, and the first string that leads to a goal.

A walk has letters, the signs in their order, and three methods: first_nodes(), the list of the
nodes of the empty string; behind(node, sign), the list of the nodes behind a node; and
is_goal(node).
"""

from gaprules.signs import SIGNS


def first_string(walk, longest):
    """Return the first string, in order, of at most longest signs that leads to a goal, or None."""
    seen = {}
    level = [("", fresh_nodes(walk.first_nodes(), seen))]
    for _ in range(longest + 1):
        for string, nodes in level:
            if any([walk.is_goal(node) for node in nodes]):
                return string
        level = next_level(walk, level, seen)
    return None


def next_level(walk, level, seen):
    """Return the strings that are one sign longer, in order, each with the nodes not yet seen."""
    # What follows hangs on the node alone: so the first string that leads to a node stands for
    # all later ones.
    longer = []
    for string, nodes in level:
        for sign in walk.letters:
            behind = [later for node in nodes for later in walk.behind(node, sign)]
            fresh = fresh_nodes(behind, seen)
            if fresh:
                longer.append((string + sign, fresh))
    return longer


def fresh_nodes(nodes, seen):
    """Return those of the nodes that are not seen yet, each once, and mark them as seen."""
    fresh = []
    for node in nodes:
        if node not in seen:
            seen[node] = True
            fresh.append(node)
    return fresh


def meets_more(walk, most):
    """Return whether strings lead the walk to more than so many nodes."""
    seen = {}
    found = fresh_nodes(walk.first_nodes(), seen)
    at = 0
    while at < len(found) and len(found) <= most:
        for sign in walk.letters:
            found.extend(fresh_nodes(walk.behind(found[at], sign), seen))
        at += 1
    return len(found) > most


def letters_of(signs):
    """Return the first so many signs."""
    return SIGNS[:signs]


def targets_of(machine):
    """Return for each state and sign of the machine the list of the states behind it."""
    targets = {
        (state, sign): [] for state in range(machine.states) for sign in letters_of(machine.signs)
    }
    for origin, sign, target in machine.edges():
        targets[origin, sign].append(target)
    return targets
