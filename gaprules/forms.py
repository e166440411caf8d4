"""Forms: whether any value has the form of a chain, a ladder or a barrier in a certificate."""

from gaprules.ladders import is_loop
from gaprules.signs import is_log, is_short_log, is_sign
from gaprules.values import is_between, is_tuple_of

MOST_CHAIN_SIGNS = 400
MOST_PIECES = 40
MOST_PIECE_SIGNS = 40


def is_chain_form(value, signs):
    """Return whether the value has the form of a chain: the empty tuple has not."""
    return isinstance(value, tuple) and value != () and all([
        is_short_log(log, signs, MOST_CHAIN_SIGNS) for log in value
    ])


def is_ladder_form(value, signs):
    """Return whether the value has the form of a ladder."""
    return is_tuple_of(value, 0, MOST_PIECES) and all([is_piece_form(piece, signs) for piece in value])


def is_barrier_form(value, pair):
    """Return whether the value is a strictly ascending tuple of pairs of states of the machines."""
    if not isinstance(value, tuple) or not all([is_state_pair(at, pair) for at in value]):
        return False
    return value == tuple(sorted(set(value)))


def is_piece_form(value, signs):
    """Return whether the value has the form of a ladder's piece."""
    if is_tuple_of(value, 2, 2) and value[0] == "sign":
        return is_sign(value[1], signs)
    if not is_tuple_of(value, 4, 4) or value[0] != "loop" or not is_log(value[1], signs):
        return False
    return all([is_triple_form(triple, signs) for triple in value[2:]]) and is_loop(value)


def is_triple_form(value, signs):
    """Return whether the value is a tuple of three strings of signs that are short enough."""
    return is_tuple_of(value, 3, 3) and all([is_short_log(string, signs, MOST_PIECE_SIGNS) for string in value])


def is_state_pair(value, pair):
    """Return whether the value is a pair of a state of each machine."""
    return is_tuple_of(value, 2, 2) and all([
        is_between(state, 0, machine.states - 1) for state, machine in zip(value, pair)
    ])
