"""Choices: the two-replica policies that keep a rule, by the literals with which replica 0 wins."""

from keywise.choices.arrows import arrows, check_literals, leads_of, literals_of, reach
from keywise.errors import InvalidPolicy
from keywise.policies.policies import Policy
from keywise.rules.rules import are_literals, ascend, check_rule, check_size, row_number


class Choice(Policy):
    """The policy for two replicas in which replica 0 wins with these literals."""

    def __init__(self, size, literals):
        check_size(size)
        if not are_wins(size, literals):
            raise InvalidPolicy(f"not an ascending tuple of literals of the size {size}")
        super().__init__(tuple([winning_function(key, literals) for key in range(size)]))
        self._wins = literals

    @property
    def wins(self):
        """The ascending tuple of the literals with which replica 0 wins."""
        return self._wins

    def __str__(self):
        return f"choice of {len(self._functions)} keys: {literal_words(self._wins)}"

    def _broken_rows(self, rule):
        valid = {row_number(row): row for row in rule[1]}
        # The keys at which a 1 becomes the new bit if the other replica has 0.
        first_wins = sum([1 << key for key, bit in self._wins if bit == 1])
        second_wins = sum([1 << key for key in range(self.size) if (key, 0) not in self._wins])
        for first in valid:
            for second in valid:
                if (first & second) | (first & first_wins) | (second & second_wins) not in valid:
                    return (valid[first], valid[second])
        return None


def are_wins(size, value):
    """Return whether the value is an ascending tuple of literals of the size."""
    return are_literals(size, value) and ascend(value)


def winning_function(key, literals):
    """Return the function of the key if replica 0 wins with these literals."""
    return (0, 0 if (key, 0) in literals else 1, 1 if (key, 1) in literals else 0, 1)


def literal_words(literals):
    """Return the text of some literals."""
    return " ".join([f"{key}={bit}" for key, bit in literals]) if literals else "none"


def check_pair_policy(policy):
    """Raise the error for a policy for two replicas that is none."""
    if not isinstance(policy, Policy) or policy.replicas != 2:
        raise InvalidPolicy("not a policy for two replicas")


def wins_of(policy):
    """Return the wins of a policy for two replicas."""
    check_pair_policy(policy)
    return tuple([(key, bit) for key, bit in literals_of(policy.size) if policy.bit(key, (bit, 1 - bit)) == bit])


def is_choice(rule, value):
    """Return whether the value is a choice of the rule."""
    check_rule(rule)
    return are_wins(rule[0], value) and is_closed(arrows(rule), value)


def is_closed(pairs, literals):
    """Return whether none of these arrows leads from one of the literals to another literal."""
    return all([second in literals for first, second in pairs if first in literals])


def masks_above(rule):
    """Return, for each literal in ascending order, the number whose bits are the literals that are reached from it."""
    literals = literals_of(rule[0])
    leads = leads_of(rule[0], arrows(rule))
    return [sum([1 << literals.index(after) for after in reach(leads, [literal])]) for literal in literals]


def choices(rule):
    """Yield all choices of the rule, ascending."""
    check_rule(rule)
    literals = literals_of(rule[0])
    above = masks_above(rule)
    # The literals that are taken, as a tuple and as a number, and the number of those that are reached from them.
    waiting = [((), 0, 0)]
    while waiting:
        begun, taken, needed = waiting.pop()
        if needed == taken:
            yield begun
        # The last one that is put here is the next one, so the literals are gone through downwards.
        for at in range(len(literals) - 1, taken.bit_length() - 1, -1):
            more = needed | above[at]
            # What is reached must not be among the literals that are passed over.
            if more & ((1 << at) - 1) == taken:
                waiting.append((begun + (literals[at],), taken | (1 << at), more))


def count_choices(rule):
    """Return the number of choices of the rule."""
    check_rule(rule)
    above = masks_above(rule)
    below = [sum([1 << other for other, mask in enumerate(above) if (mask >> at) & 1]) for at in range(len(above))]
    return count_closed((1 << len(above)) - 1, above, below, {0: 1})


def count_closed(free, above, below, known):
    """Return in how many ways the literals of the number can be chosen, if they can be chosen by themselves."""
    if free not in known:
        at = free.bit_length() - 1
        chosen = count_closed(free & ~above[at], above, below, known)
        known[free] = chosen + count_closed(free & ~below[at], above, below, known)
    return known[free]


def least_choice(rule, *, wanted=(), unwanted=()):
    """Return the least choice with all wanted and no unwanted literals, or None."""
    check_rule(rule)
    check_literals(rule[0], wanted)
    check_literals(rule[0], unwanted)
    least = reach(leads_of(rule[0], arrows(rule)), wanted)
    return None if any([literal in unwanted for literal in least]) else tuple(least)


def greatest_choice(rule, *, wanted=(), unwanted=()):
    """Return the greatest choice with all wanted and no unwanted literals, or None."""
    check_rule(rule)
    check_literals(rule[0], wanted)
    check_literals(rule[0], unwanted)
    leads = leads_of(rule[0], arrows(rule))
    kept = []
    for literal in literals_of(rule[0]):
        if not any([other in unwanted for other in reach(leads, [literal])]):
            kept.append(literal)
    return tuple(kept) if all([literal in kept for literal in wanted]) else None
