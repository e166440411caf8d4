"""Pairs of machines at the limits, found by a search; what each is for, its tests check again."""

from tests.helpers import machine_of


def exchanged(pair):
    return pair[1], pair[0]


def pair_of_11_and_12():
    """c_A is 11, c_B is 12; the rules with 12 answers are within all limits."""
    return (
        machine_of(2, 6, "0b4 1a5 1b2 3b5 4b1 5b0", (0, 3), (2, 4)),
        machine_of(2, 6, "1a4 1b2 2b1 4b4", (2,), (2, 4)),
    )


def pair_of_12_and_13():
    return (
        machine_of(3, 6, "0a0 0b0 0b4 0c1 1a4 2a5 4a2 4b1 5c2", (0,), (5,)),
        machine_of(3, 6, "0a3 3a0 3b5 4a4 4c0 5a4", (3,), (0,)),
    )


def pair_of_19_and_20():
    return (
        machine_of(3, 6, "0b2 0c4 1b1 1c0 2a5 2b0 4a1 4b4 5b5 5c2", (0, 1), (2, 4)),
        machine_of(3, 6, "0b3 1a0 1c1 2a5 3b2 3c0 5b5 5c5", (0, 1, 2), (2, 5)),
    )


def pair_of_20_and_21():
    return (
        machine_of(3, 6, "0a2 0c0 1a5 2a4 2b2 2c2 3b5 3c4 4b3 5c1", (0, 2), (4, 5)),
        machine_of(3, 6, "0b2 0c5 1b0 2b5 2c2 4a1 4a5 4b4 5c4", (5,), (4,)),
    )


def pair_of_46_for_b():
    """c_A is 1, c_B is 2; D_B(2) has 46 rests, the others that are built have fewer."""
    return (
        machine_of(3, 6, "0c4 1a3 1b1 2a2 3b0 4b2 5a1 5b5", (5,), (2,)),
        machine_of(3, 6, "0b0 1a2 1b4 2a5 2b1 3a1 3b2 4a3 5a0 5b5", (3, 5), (0,)),
    )


def pair_of_log_200():
    """The chain of 7 logs above the empty string that begins with A ends with 200 signs."""
    return (
        machine_of(3, 6, "0a2 0b0 1a0 1c4 2a3 3a1 4a0", (4,), (1,)),
        machine_of(3, 6, "0b3 2b5 3a3 4c0 5a2 5c4", (0, 2), (3, 4)),
    )


def pair_of_log_201():
    """The chain of 7 logs above the empty string that begins with A ends with 201 signs."""
    return (
        machine_of(3, 6, "0a2 0b0 1a5 2a3 3a1 3a4 4a0 5c4", (4,), (1,)),
        machine_of(3, 6, "0b3 1a2 1c0 2b1 3a3", (0, 2), (0, 3)),
    )


def pair_of_pattern_24():
    """The longest pattern of the rules made for A has 24 signs."""
    return (
        machine_of(2, 6, "0a2 0b0 2a5 2b2 3a0 3b3 4a1 4b4 5a4 5b5", (3,), (1,)),
        machine_of(2, 6, "0b4 1a5 2a3 2b1 3b2 3b3 4b2 5b0", (0,), (1,)),
    )


def pair_of_pattern_25():
    """The longest pattern of the rules made for A has 25 signs, no block has more than 24 patterns."""
    return (
        machine_of(3, 6, "0b3 0c5 1b0 1b1 2a3 2b0 2c3 3c1 3c4 4b5 4c4 5b2 5c2", (0,), (3,)),
        machine_of(3, 6, "0b2 0c5 1b1 2b4 2c2 3b1 3c3 4b3 4c4 5a0", (5,), (1,)),
    )


def pair_of_24_patterns():
    """The largest block of the rules made for A has 24 patterns."""
    return (
        machine_of(3, 6, "0a4 2b0 3a0 3c2 4a1 4b4 4c4", (3,), (1,)),
        machine_of(3, 6, "2c5 5a2 5c3", (2,), (3,)),
    )


def pair_of_25_patterns():
    """The largest block of the rules made for A has 25 patterns, of at most 24 signs each."""
    return (
        machine_of(2, 6, "0a1 0b0 1a3 1b1 2a5 4a4 4b2 5a0 5b5", (4,), (3,)),
        machine_of(2, 6, "0a5 1b2 2b0 3b1 4b0 5a2 5a3 5b4", (5,), (0,)),
    )


def pair_of_3000():
    """With the rules made for A strings lead to 3000 pairs in machine B, to fewer in machine A."""
    return (
        machine_of(2, 6, "0a0 0b5 2a2 2b4 3b0 5b2", (3,), (4,)),
        machine_of(2, 6, "0a5 1b0 1b2 2a4 2b2 2b3 2b4 3b2 3b3 4a1 4b3 4b5 5a4", (0, 4, 5), (1,)),
    )


def pair_of_3001():
    """With the rules made for A strings lead to 3001 pairs in machine B, to fewer in machine A."""
    return (
        machine_of(2, 6, "0b2 1a0 2a5 3a3 3b1 4a4 4b3", (1, 3, 4), (5,)),
        machine_of(2, 6, "0a2 0b1 0b2 1a1 1a3 2b5 3a0 3a5 4a0 4b1 5a4 5b0 5b5", (2, 4, 5), (0,)),
    )
