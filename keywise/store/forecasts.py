"""Forecasts: what replicas can still show while some of their rows are unknown."""

from keywise.errors import InvalidRow, TooLarge
from keywise.patterns.patterns import first_with
from keywise.policies.merges import merges_into
from keywise.policies.policies import MAX_MERGES, check_policy_of, is_too_many, result, tuples_of_bits
from keywise.rules.rules import check_between, check_key, check_row, check_rule, is_one_of, row_number, row_with


def check_knowledge(rule, policy, known):
    """Raise the error for a rule, a policy or knowledge of which there is no forecast."""
    check_rule(rule)
    size, rows = rule
    check_policy_of(size, policy)
    if not isinstance(known, tuple) or len(known) != policy.replicas:
        raise InvalidRow(f"not knowledge for {policy.replicas} replicas")
    if not all([row is None or is_one_of(size, rows, row) for row in known]):
        raise InvalidRow("not knowledge of valid rows")


def completions_into(rule, policy, known, wanted):
    """Return a dict from the rows of the wanted set that are possible to completions, with rows as in merges_into."""
    every = [row_number(row) for row in rule[1]]
    options = [every if row is None else [row_number(row)] for row in known]
    if is_too_many(len(every), len([row for row in known if row is None])):
        raise TooLarge(MAX_MERGES)
    return merges_into(policy.functions, options, wanted)


def shown_rows(rule, policy, known):
    """Return the ascending tuple of all possible rows."""
    check_knowledge(rule, policy, known)
    size, _ = rule
    found = completions_into(rule, policy, known, (1 << (1 << size)) - 1)
    return tuple(sorted([row_with(size, number) for number in found]))


def fitting_bits(known, key):
    """Return the ascending list of the tuples of bits that the replicas can have for the key."""
    found = []
    for bits in tuples_of_bits(len(known)):
        if all([row is None or row[key] == bit for row, bit in zip(known, bits)]):
            found.append(bits)
    return found


def settled(rule, policy, known):
    """Return the dict from the settled keys to their bits."""
    check_knowledge(rule, policy, known)
    found = {}
    for key, function in enumerate(policy.functions):
        results = [result(function, bits) for bits in fitting_bits(known, key)]
        if min(results) == max(results):
            found[key] = results[0]
    return found


def with_bit(bits, replica, bit):
    """Return the bits with another one for the replica."""
    return bits[:replica] + (bit,) + bits[replica + 1:]


def turned_bits(function, known, key, replica):
    """Return two tuples of bits that differ only at the replica, with the results 0 and 1, or None."""
    if known[replica] is not None:
        return None
    for bits in fitting_bits(known, key):
        pair = (with_bit(bits, replica, 0), with_bit(bits, replica, 1))
        results = [result(function, each) for each in pair]
        if results[0] != results[1]:
            return pair if results[0] == 0 else pair[::-1]
    return None


def open_replicas(rule, policy, known, key):
    """Return the ascending tuple of the replicas that are open for the key."""
    check_knowledge(rule, policy, known)
    check_key(rule[0], key)
    replicas = range(len(known))
    return tuple([replica for replica in replicas if turned_bits(policy[key], known, key, replica) is not None])


def completed(rows, known, key, bits):
    """Return the knowledge with a valid row for each unknown replica that has its bit for the key."""
    return tuple([first_with(rows, ((key, bit),)) if row is None else row for row, bit in zip(known, bits)])


def open_pair(rule, policy, known, key, replica):
    """Return two completions that show that the replica is open for the key, or None."""
    check_knowledge(rule, policy, known)
    size, rows = rule
    check_key(size, key)
    check_between(0, policy.replicas - 1, replica)
    pair = turned_bits(policy[key], known, key, replica)
    return None if pair is None else tuple([completed(rows, known, key, bits) for bits in pair])


def completion(rule, policy, known, row):
    """Return a completion that the policy merges into the row, or None if the row is not possible."""
    check_knowledge(rule, policy, known)
    size, _ = rule
    check_row(size, row)
    for rows in completions_into(rule, policy, known, 1 << row_number(row)).values():
        return tuple([row_with(size, number) for number in rows])
    return None


def is_completion(rule, policy, known, row, value):
    """Return whether the value is a completion that the policy merges into the row."""
    check_knowledge(rule, policy, known)
    size, rows = rule
    check_row(size, row)
    if not isinstance(value, tuple) or len(value) != len(known):
        return False
    if not all([is_one_of(size, rows, other) for other in value]):
        return False
    return all([here is None or here == other for here, other in zip(known, value)]) and policy(value) == row


def outlook(store, replica, *sealed):
    """Return what is settled and what can be shown if only the rows of the sealed replicas cannot change any more."""
    replicas = store.policy.replicas
    for other in (replica,) + sealed:
        check_between(0, replicas - 1, other)
    known = tuple([row if other in sealed else None for other, row in enumerate(store.known(replica))])
    return (settled(store.rule, store.policy, known), shown_rows(store.rule, store.policy, known))
