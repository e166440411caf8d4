"""Ladders, by which chains of logs grow without end, and barriers, which bar them."""

from gaprules.machines import require_pair
from gaprules.signs import SIGNS


def ladder_or_barrier(pair):
    """Return ("ladder", pieces) or ("barrier", pairs), whichever the pair of machines has."""
    require_pair(pair)
    one, two = pair
    came_by = pieces_from_starts(pair)
    for goal in state_pairs(one.ends(), two.ends()):
        if goal in came_by:
            return ("ladder", pieces_to(goal, came_by))
    return ("barrier", tuple(sorted(came_by)))


def ladder_logs(ladder, rounds):
    """Return the log of the first and that of the second machine, each round read so many times."""
    one, two = "", ""
    for piece in ladder:
        if piece[0] == "sign":
            one += piece[1]
            two += piece[1]
        else:
            one += loop_log(piece[2], rounds)
            two += loop_log(piece[3], rounds)
    return (one, two)


def is_ladder(pair, ladder):
    """Return whether the pieces lead both machines from a start to an end."""
    fits = all([is_loop(piece) for piece in ladder if piece[0] == "loop"])
    return fits and ladder_fault(pair, ladder) is None


def is_barrier(pair, barrier):
    """Return whether the pairs of states are a barrier."""
    one, two = pair
    known = state_pairs(states_of(one), states_of(two))
    if barrier != tuple(sorted(set(barrier))) or not all([at in known for at in barrier]):
        return False
    return barrier_fault(pair, barrier) is None


def ladder_fault(pair, ladder):
    """Return the first fault of pieces that have the form of a ladder's pieces, or None."""
    one, two = pair
    states, others = one.starts(), two.starts()
    for at, piece in enumerate(ladder):
        states = states_behind_piece(one, states, piece, 2)
        others = states_behind_piece(two, others, piece, 3)
        if not states or not others:
            return ("piece", at)
    if not one.holds_end(states):
        return ("end", "A")
    if not two.holds_end(others):
        return ("end", "B")
    return None


def barrier_fault(pair, barrier):
    """Return the first fault of ascending pairs of states as a barrier, or None."""
    one, two = pair
    if not all([start in barrier for start in state_pairs(one.starts(), two.starts())]):
        return ("start",)
    links = links_of(pair)
    for at in barrier:
        if not all([behind in barrier for behind in links[at]]):
            return ("step", at)
    for state, other in barrier:
        if one.holds_end((state,)) and two.holds_end((other,)):
            return ("end", (state, other))
    return None


def pieces_from_starts(pair):
    """Return the pairs of states that pieces lead to, each with the pair before it and the piece.

    A pair of starts has None instead.
    """
    one, two = pair
    links = links_of(pair)
    found = state_pairs(one.starts(), two.starts())
    came_by = {start: None for start in found}
    at = 0
    while at < len(found):
        here = found[at]
        for behind, piece in links[here].items():
            if behind not in came_by:
                came_by[behind] = (here, piece)
                found.append(behind)
        at += 1
    return came_by


def pieces_to(goal, came_by):
    """Return the pieces that lead from a pair of starts to the goal."""
    # No pair comes twice on the way, so there are at most 35 pieces.
    pieces = []
    here = goal
    while came_by[here] is not None:
        here, piece = came_by[here]
        pieces.append(piece)
    return tuple(reversed(pieces))


def links_of(pair):
    """Return for each pair of states the pairs that one piece leads to, each with such a piece."""
    one, two = pair
    links = {at: {} for at in state_pairs(states_of(one), states_of(two))}
    for origin, sign, target in one.edges():
        for begin, letter, end in two.edges():
            if letter == sign:
                links[origin, begin][target, end] = ("sign", sign)
    for signs in sign_groups(one.signs):
        others = loops_of(two, signs)
        for (origin, target), loop in loops_of(one, signs).items():
            for (begin, end), other in others.items():
                links[origin, begin].setdefault((target, end), ("loop", signs, loop, other))
    return links


def state_pairs(ones, others):
    """Return the list of all pairs of one of the first states and one of the second ones."""
    return [(one, other) for one in ones for other in others]


def states_of(machine):
    """Return the list of the machine's states."""
    return list(range(machine.states))


def sign_groups(many):
    """Return the ordered strings of one or more different ones of the first so many signs."""
    groups = [""]
    for sign in SIGNS[:many]:
        groups = groups + [group + sign for group in groups]
    return groups[1:]


def loops_of(machine, signs):
    """Return for each two states that a loop of just these signs links its triple of strings."""
    paths = paths_of(machine, signs)
    loops = {}
    for middle in range(machine.states):
        turn = round_at(machine, middle, signs, paths)
        if turn is not None:
            for origin, target in state_pairs(states_of(machine), states_of(machine)):
                if (origin, middle) in paths and (middle, target) in paths:
                    triple = (paths[origin, middle], turn, paths[middle, target])
                    loops.setdefault((origin, target), triple)
    return loops


def paths_of(machine, signs):
    """Return for each two states that strings of these signs link a shortest such string."""
    paths = {}
    for origin in range(machine.states):
        paths[origin, origin] = ""
        found = [origin]
        at = 0
        while at < len(found):
            for begin, sign, end in machine.edges():
                if begin == found[at] and sign in signs and (origin, end) not in paths:
                    paths[origin, end] = paths[origin, begin] + sign
                    found.append(end)
            at += 1
    return paths


def round_at(machine, state, signs, paths):
    """Return a string of just these signs, each at least once, from the state back to it, or None."""
    # Each sign takes one way out and back, of at most 5 + 1 + 5 signs: at most 33 for all.
    turn = ""
    for sign in signs:
        ways = [
            paths[state, begin] + sign + paths[end, state]
            for begin, letter, end in machine.edges()
            if letter == sign and (state, begin) in paths and (end, state) in paths
        ]
        if not ways:
            return None
        if sign not in turn:
            turn += min(ways, key=len)
    return turn


def loop_log(triple, rounds):
    """Return the string of a loop's triple in which the round is read so many times."""
    before, turn, behind = triple
    return before + turn * rounds + behind


def is_loop(piece):
    """Return whether the loop's strings are of its signs, and its rounds have all of them."""
    signs = piece[1]
    for triple in piece[2:]:
        if not all([sign in signs for string in triple for sign in string]):
            return False
        if not all([sign in triple[1] for sign in signs]):
            return False
    return signs != "" and signs == "".join(sorted(set(signs)))


def states_behind_piece(machine, states, piece, side):
    """Return the states in which the machine can be behind the piece.

    side is the index in a loop of this machine's triple.
    """
    if piece[0] == "sign":
        return machine.states_behind(states, piece[1])
    before, turn, behind = piece[side]
    middles = [
        state for state in machine.states_behind(states, before)
        if state in machine.states_behind((state,), turn)
    ]
    return machine.states_behind(tuple(middles), behind)
