"""Claims about a pair of machines, and certificates that show or break them."""

from gaprules.chains import chain_fault, chain_of
from gaprules.downsets import Levels
from gaprules.errors import InvalidClaim, LimitExceeded
from gaprules.forms import is_barrier_form, is_chain_form, is_ladder_form
from gaprules.ladders import barrier_fault, ladder_fault, ladder_or_barrier
from gaprules.machines import KINDS, is_kind, other_kind, require_pair
from gaprules.made import MOST_ANSWERS, rules_with
from gaprules.rules import place_of_fault, rules_fault
from gaprules.values import is_between, is_tuple_of


def require_claim(claim):
    """Raise InvalidClaim if the value is none of the claims."""
    if not is_claim(claim):
        raise InvalidClaim()


def decide(pair, claim):
    """Return the certificate that shows or breaks the claim for the pair of machines."""
    require_pair(pair)
    require_claim(claim)
    name, found = ladder_or_barrier(pair)
    if name == "ladder":
        return ("broken", claim, found)
    if claim[0] == "bounded":
        return ("shown", claim, found)
    if claim[0] == "sortable":
        return sortable_certificate(pair, claim)
    return within_certificate(pair, claim)


def first_fault(pair, certificate):
    """Return None if the certificate is right for the pair of machines, else its first fault."""
    require_pair(pair)
    if not has_form(pair, certificate):
        return ("form",)
    word, claim, found = certificate
    if word == "shown":
        return barrier_fault(pair, found) if claim[0] == "bounded" else shown_rules_fault(pair, claim, found)
    if is_chain_form(found, pair[0].signs):
        return broken_chain_fault(pair, claim, found)
    return ladder_fault(pair, found)


def is_claim(value):
    """Return whether the value is one of the claims."""
    if is_tuple_of(value, 3, 3):
        return value[0] == "within" and is_kind(value[1]) and is_between(value[2], 1, MOST_ANSWERS)
    return value == ("bounded",) or value == ("sortable",)


def within_certificate(pair, claim):
    """Return the certificate for within, where there is no ladder."""
    _, last, most = claim
    levels = Levels(pair)
    # The first depth without a chain that begins with the other kind is the fewest answers.
    answers = levels.first_empty(other_kind(last), most)
    if answers is None:
        return ("broken", claim, chain_of(levels, other_kind(last), most, ""))
    return ("shown", claim, checkable_rules(pair, levels, last, answers))


def sortable_certificate(pair, claim):
    """Return the certificate for sortable, where there is no ladder."""
    levels = Levels(pair)
    fewest = []
    for kind in KINDS:
        answers = levels.first_empty(kind, MOST_ANSWERS)
        if answers is not None:
            fewest.append((answers, other_kind(kind)))
    if not fewest:
        raise LimitExceeded(MOST_ANSWERS)
    # With equally many answers the last answer "A" is the lesser one.
    answers, last = min(fewest)
    return ("shown", claim, checkable_rules(pair, levels, last, answers))


def checkable_rules(pair, levels, last, answers):
    """Return the rules that are made; raise if the checker could not follow them."""
    rules = rules_with(levels, last, answers)
    # They are right: what is asked for is only whether too many progresses are met.
    rules_fault(pair, rules)
    return rules


def has_form(pair, value):
    """Return whether the value is a claim with a certificate of its kind."""
    if not is_tuple_of(value, 3, 3) or not is_claim(value[1]):
        return False
    word, claim, found = value
    signs = pair[0].signs
    if word == "broken":
        return is_ladder_form(found, signs) or (claim[0] == "within" and is_chain_form(found, signs))
    if word != "shown":
        return False
    if claim[0] == "bounded":
        return is_barrier_form(found, pair)
    return place_of_fault(found, signs) is None


def shown_rules_fault(pair, claim, rules):
    """Return the first fault of rules that are to show the claim, or None."""
    blocks, last = rules
    if claim[0] == "within" and (last != claim[1] or len(blocks) + 1 > claim[2]):
        return ("answers",)
    fault = rules_fault(pair, rules)
    return None if fault is None else ("log", *fault)


def broken_chain_fault(pair, claim, logs):
    """Return the first fault of a chain that is to break the claim, or None."""
    _, last, most = claim
    if len(logs) != most:
        return ("length",)
    return chain_fault(pair, other_kind(last), logs)
