"""Rules for the tests."""

import random


def alternating(last, blocks):
    """The rules of these tuples of patterns, with answers that alternate up to the last one."""
    answers = [last]
    while len(answers) <= len(blocks):
        answers.insert(0, "BA"["AB".index(answers[0])])
    return tuple(zip(answers, blocks)), last


def random_rules(many, signs, blocks=5):
    """So many rules, always the same ones, of up to so many blocks with short patterns."""
    source = random.Random(f"{many} {signs} {blocks}")

    def pattern():
        return "".join(source.choice("abc"[:signs]) for _ in range(source.choice((0, 1, 1, 2, 2, 3))))

    return [
        alternating(
            source.choice("AB"),
            [tuple(pattern() for _ in range(source.randint(1, 3))) for _ in range(source.randint(0, blocks))],
        )
        for _ in range(many)
    ]
