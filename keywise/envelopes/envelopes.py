"""Envelopes: the least rules around a rule that some policies keep."""

from keywise.errors import InvalidPolicy, TooLarge
from keywise.policies.merges import members, merges_into, set_of
from keywise.policies.policies import Policy, are_rows, is_too_many
from keywise.rules.rules import check_row, check_rule, is_between, is_pair, is_row, is_rule, row_number, row_with

MAX_MERGES = 20000
# The set of all rows of all sizes.
EVERY_ROW = -1


def are_policies(size, value):
    """Return whether the value is a tuple of policies of the size."""
    if not isinstance(value, tuple) or not all([isinstance(policy, Policy) for policy in value]):
        return False
    return all([policy.size == size for policy in value])


def check_request(rule, policies):
    """Raise the error for a rule that is none, or for policies that are not a tuple of policies of its size."""
    check_rule(rule)
    if not are_policies(rule[0], policies):
        raise InvalidPolicy("not a tuple of policies of the size of the rule")


def most_replicas(policies):
    """Return the greatest number of replicas of the policies, or 1 if there are none."""
    return max([policy.replicas for policy in policies], default=1)


def new_merges(policies, known, wanted):
    """Return a dict from the wanted rows that come of the known ones, and are not known, to the steps by which they do.

    Here as below, rows are numbers, and known and wanted ones are sets of them, as merges_into has them.
    """
    found = {}
    numbers = members(known)
    for at, policy in enumerate(policies):
        left = wanted & ~(known | set_of(found))
        if left == 0:
            break
        for number, sources in merges_into(policy.functions, [numbers] * policy.replicas, left).items():
            found[number] = (number, at, sources)
    return found


def rounds_of_steps(rule, policies):
    """Return the list of the rounds, each as a dict from its rows to the steps by which they are made."""
    known = set_of([row_number(row) for row in rule[1]])
    most = most_replicas(policies)
    found = []
    while True:
        if is_too_many(len(members(known)), most):
            raise TooLarge(MAX_MERGES)
        new = new_merges(policies, known, EVERY_ROW)
        if not new:
            return found
        found.append(new)
        known |= set_of(new)


def envelope_of(rule, policies):
    """Return the envelope of the rule and the policies."""
    check_request(rule, policies)
    size, rows = rule
    added = [row_with(size, number) for steps in rounds_of_steps(rule, policies) for number in steps]
    return (size, tuple(sorted(list(rows) + added)))


def envelope(rule, *policies):
    """Return the envelope of the rule and the policies."""
    return envelope_of(rule, policies)


def rounds(rule, policies):
    """Yield the rounds, each an ascending tuple of rows."""
    check_request(rule, policies)
    for steps in rounds_of_steps(rule, policies):
        yield tuple(sorted([row_with(rule[0], number) for number in steps]))


def needed_steps(steps, last):
    """Return, in their order, those of the steps that are needed for the row `last`, which one of them makes."""
    needed = {last: True}
    found = []
    for number, at, sources in steps[::-1]:
        if number in needed:
            found.append((number, at, sources))
            needed.update({source: True for source in sources})
    return found[::-1]


def membership(rule, policies, row):
    """Return a derivation of the row or a barrier against it, with the word for what it is."""
    check_request(rule, policies)
    size, rows = rule
    check_row(size, row)
    found = rounds_of_steps(rule, policies)
    if row in rows:
        return ("derived", ())
    steps = [step for new in found for step in new.values()]
    if row_number(row) not in [number for number, _, _ in steps]:
        return ("barrier", envelope_of(rule, policies))
    shown = []
    for number, at, sources in needed_steps(steps, row_number(row)):
        shown.append((row_with(size, number), at, tuple([row_with(size, source) for source in sources])))
    return ("derived", tuple(shown))


def is_membership(rule, policies, row, value):
    """Return whether the value is a derivation of the row or a barrier against it, with the word for what it is."""
    check_request(rule, policies)
    check_row(rule[0], row)
    if not is_pair(value):
        return False
    word, shown = value
    if word == "derived":
        return is_derivation(rule, policies, row, shown)
    return word == "barrier" and is_barrier(rule, policies, row, shown)


def is_barrier(rule, policies, row, value):
    """Return whether the value is a barrier against the row."""
    if not is_rule(value) or value[0] != rule[0]:
        return False
    _, rows = value
    if row in rows or not all([valid in rows for valid in rule[1]]):
        return False
    if is_too_many(len(rows), most_replicas(policies)):
        return False
    return all([policy.keeps(value) for policy in policies])


def is_derivation(rule, policies, row, value):
    """Return whether the value is a derivation of the row."""
    check_request(rule, policies)
    size, rows = rule
    check_row(size, row)
    if not isinstance(value, tuple):
        return False
    known = {valid: True for valid in rows}
    for step in value:
        if not is_step(size, policies, known, step):
            return False
        known[step[0]] = True
    return value[-1][0] == row if value else row in known


def is_step(size, policies, known, value):
    """Return whether the value is a step from the known rows."""
    if not isinstance(value, tuple) or len(value) != 3:
        return False
    row, at, sources = value
    if not is_row(size, row) or not is_between(0, len(policies) - 1, at):
        return False
    policy = policies[at]
    if not are_rows(size, sources) or len(sources) != policy.replicas:
        return False
    return all([source in known for source in sources]) and policy(sources) == row


def is_derivable(policies, known, row):
    """Return whether the row comes of the known rows, which it is not among, by merging again and again."""
    while True:
        # To look for this row alone is faster, and most rows that can be left out are found so.
        if new_merges(policies, known, 1 << row):
            return True
        new = new_merges(policies, known, EVERY_ROW)
        if not new:
            return False
        known |= set_of(new)


def thinned(rule, policies):
    """Return the rule without the rows that, in ascending order, come of the rows that are still there."""
    check_request(rule, policies)
    rounds_of_steps(rule, policies)
    size, rows = rule
    # A copy makes no row that was not there.
    making = [policy for policy in policies if policy.copied() is None]
    left = set_of([row_number(row) for row in rows])
    for row in rows:
        others = left & ~(1 << row_number(row))
        if is_derivable(making, others, row_number(row)):
            left = others
    return (size, tuple(sorted([row_with(size, number) for number in members(left)])))
