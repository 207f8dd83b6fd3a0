"""The decision of a rule, and the judgement of a policy."""

from keywise.choices.arrows import closed_walk, components, is_closed_walk, literals_of
from keywise.choices.choices import Choice
from keywise.errors import Broken, InvalidOperation, TooLarge
from keywise.parity.parity import Parity, is_parity_paper, rows_with_wrong_sum
from keywise.policies.policies import MAX_MERGES, Policy, Table, check_policy_of, is_too_many
from keywise.rules.rules import check_rule, is_between, is_one_of


def decision(rule):
    """Return a policy that keeps the rule and copies no replica, or an obstruction, with the word for what it is."""
    found = components(rule)
    size, _ = rule
    if len(found) > 1:
        # No arrow leads out of the last component, so it is a choice.
        return ("policy", Choice(size, found[-1]))
    wrong = rows_with_wrong_sum(rule)
    if wrong is None:
        return ("policy", Parity(3, size))
    return ("obstruction", closed_walk(rule), wrong)


def is_decision(rule, value):
    """Return whether the value is a decision of the rule."""
    check_rule(rule)
    if not isinstance(value, tuple) or not value:
        return False
    if value[0] == "policy":
        return len(value) == 2 and is_free(rule, value[1])
    return value[0] == "obstruction" and len(value) == 3 and is_obstruction(rule, value[1], value[2])


def is_free(rule, value):
    """Return whether the value is a small policy that keeps the rule and copies no replica."""
    if not isinstance(value, Policy) or value.size != rule[0]:
        return False
    return value.copied() is None and is_small(rule, value) and value.keeps(rule)


def is_obstruction(rule, walk, rows):
    """Return whether these are a closed walk through all literals and three valid rows whose sum is not valid."""
    if not is_closed_walk(rule, walk):
        return False
    passed = {literal: True for literal, _ in walk}
    return sorted(passed) == literals_of(rule[0]) and is_parity_paper(rule, ("rows", rows))


def is_small(rule, policy):
    """Return whether the policy is no Table, or one for which the merges of valid rows are not too many."""
    return not isinstance(policy, Table) or not is_too_many(len(rule[1]), policy.replicas)


def check_judged(rule, policy):
    """Raise the error for a rule and a policy of which there is no judgement."""
    check_rule(rule)
    check_policy_of(rule[0], policy)
    if policy.copied() is None and not is_small(rule, policy):
        raise TooLarge(MAX_MERGES)


def judged(rule, policy):
    """Return whether the policy copies a replica, keeps the rule or breaks it, with what shows it."""
    check_judged(rule, policy)
    copied = policy.copied()
    if copied is not None:
        return ("copies", copied)
    broken = policy.broken_merge(rule)
    return ("keeps",) if broken is None else ("breaks", broken)


def is_judgement(rule, policy, value):
    """Return whether the value is a judgement of the policy."""
    check_judged(rule, policy)
    if not isinstance(value, tuple) or not value:
        return False
    copied = policy.copied()
    if value[0] == "copies":
        return len(value) == 2 and copied is not None and is_between(copied, copied, value[1])
    if value[0] == "keeps":
        return len(value) == 1 and copied is None and policy.keeps(rule)
    return value[0] == "breaks" and len(value) == 2 and are_broken(rule, policy, value[1])


def are_broken(rule, policy, value):
    """Return whether the value is a tuple of valid rows that the policy merges into a row that is not valid."""
    size, rows = rule
    if not isinstance(value, tuple) or len(value) != policy.replicas:
        return False
    return all([is_one_of(size, rows, row) for row in value]) and policy(value) not in rows


def copied_replica(rule, policy):
    """Return the replica that the policy copies, which keeps this rule with an obstruction."""
    check_rule(rule)
    check_policy_of(rule[0], policy)
    if decision(rule)[0] == "policy":
        raise InvalidOperation("the rule has no obstruction")
    found = judged(rule, policy)
    if found[0] == "breaks":
        raise Broken(found[1])
    return found[1]
