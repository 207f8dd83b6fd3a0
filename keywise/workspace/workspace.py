"""A workspace: a rule that is edited while policies are watched."""

from keywise.decide.decide import decision, is_judgement, judged
from keywise.errors import InvalidEdit, UnknownName
from keywise.patterns.patterns import first_with, patterns
from keywise.rules.rules import all_rows, check_partial, check_rule, contains, have_both_bits, is_pair, is_partial
from keywise.rules.rules import rows_with
from keywise.store.undoing import check_many

EDIT_WORDS = ("forbid", "allow", "replace")
MAX_LETTERS = 8


class Workspace:
    """A rule with its edits, and the policies that are watched under their names."""

    def __init__(self, rule, **policies):
        check_rule(rule)
        # The rule at first and after each group of the log.
        self._rules = [rule]
        self._log = []
        # The groups with the rules to which they led. The last one is made again first.
        self._undone = []
        self._policies = {}
        self._decisions = {}
        for name in sorted(policies):
            self.watch(name, policies[name])

    @property
    def rule(self):
        """The rule."""
        return self._rules[-1]

    @property
    def patterns(self):
        """The patterns of the rule."""
        return patterns(self._rules[-1])

    @property
    def policies(self):
        """The dict from the names to the policies."""
        return {name: self._policies[name] for name in sorted(self._policies)}

    @property
    def log(self):
        """The tuple of the groups that have not been undone."""
        return tuple(self._log)

    @property
    def computed(self):
        """The number of the decisions that were computed."""
        return len(self._decisions)

    def valid_rows(self, partial=()):
        """Yield the valid rows that contain the partial row, ascending."""
        rule = self._rules[-1]
        for row in rows_with(rule, partial):
            yield row

    def __len__(self):
        return len(self._rules[-1][1])

    def __contains__(self, value):
        size, rows = self._rules[-1]
        return is_partial(size, value) and first_with(rows, value) is not None

    def __str__(self):
        return f"{self._rules[-1][0]} keys, {len(self)} rows, {len(self.patterns)} patterns"

    def __eq__(self, other):
        if not isinstance(other, Workspace) or self._rules[-1] != other._rules[-1]:
            return False
        return self._policies == other._policies

    def forbid(self, partial):
        """Make the rows that contain the partial row not valid, and return the news."""
        return self.apply(("forbid", partial))

    def allow(self, partial):
        """Make all rows that contain the partial row valid, and return the news."""
        return self.apply(("allow", partial))

    def replace(self, rule):
        """Take another rule of the same size, and return the news."""
        return self.apply(("replace", rule))

    def apply(self, *edits):
        """Make the edits as one group, all or none, and return the news of the group."""
        if not all([is_pair(edit) and edit[0] in EDIT_WORDS for edit in edits]):
            raise InvalidEdit("not an edit")
        if not edits:
            return ()
        rule = self._rules[-1]
        for word, changed in edits:
            rule = edited(rule, word, changed)
        news = self._news(rule)
        self._rules.append(rule)
        self._log.append(edits)
        self._undone = []
        return news

    def undo(self, *, many=1):
        """Undo the last groups, and return the news of all of it together."""
        check_many(many, len(self._log))
        left = len(self._log) - many
        news = self._news(self._rules[left])
        self._undone = self._undone + list(zip(self._log[left:], self._rules[left + 1:]))[::-1]
        del self._log[left:]
        del self._rules[left + 1:]
        return news

    def redo(self, *, many=1):
        """Make undone groups again, the last undone one first, and return the news of all of it together."""
        check_many(many, len(self._undone))
        left = len(self._undone) - many
        again = self._undone[left:][::-1]
        rules = self._rules + [rule for _, rule in again]
        news = self._news(rules[-1])
        self._rules = rules
        self._log = self._log + [group for group, _ in again]
        del self._undone[left:]
        return news

    def watch(self, name, policy):
        """Watch the policy under this name, and return its standing."""
        if not is_name(name) or name in self._policies:
            raise InvalidEdit("not a name, or one in use")
        found = judged(self._rules[-1], policy)
        self._policies[name] = policy
        return found

    def unwatch(self, name):
        """Watch the policy with this name no longer, and return it."""
        self._check_name(name)
        return self._policies.pop(name)

    def standing(self, name):
        """Return the standing of the policy with this name."""
        self._check_name(name)
        return judged(self._rules[-1], self._policies[name])

    def is_standing(self, name, value):
        """Return whether the value is a standing of the policy with this name."""
        self._check_name(name)
        return is_judgement(self._rules[-1], self._policies[name], value)

    def decision(self):
        """Return the decision of the rule, the same one whenever the rule is the same."""
        rule = self._rules[-1]
        if rule not in self._decisions:
            self._decisions[rule] = decision(rule)
        return self._decisions[rule]

    def twin(self):
        """Return an independent workspace that is equal to this one."""
        made = Workspace(self._rules[-1])
        for name, policy in self._policies.items():
            made.watch(name, policy)
        return made

    def _check_name(self, name):
        # Not every value can be looked up in a dict, but every string can.
        if not isinstance(name, str) or name not in self._policies:
            raise UnknownName(name)

    def _news(self, rule):
        """Return the news of a change to this rule."""
        found = []
        for name in sorted(self._policies):
            policy = self._policies[name]
            before, after = judged(self._rules[-1], policy)[0], judged(rule, policy)[0]
            if before != after:
                found.append((name, before, after))
        return tuple(found)


def is_name(value):
    """Return whether the value is a name of one to eight lowercase letters."""
    if not isinstance(value, str) or len(value) > MAX_LETTERS:
        return False
    return value.isascii() and value.isalpha() and value.islower()


def edited(rule, word, changed):
    """Return the rule after the edit with this word of a partial row or of another rule."""
    size, rows = rule
    if word == "replace":
        check_rule(changed)
        if changed[0] != size:
            raise InvalidEdit("the rule has another size")
        return changed
    check_partial(size, changed)
    if word == "forbid":
        left = [row for row in rows if not contains(row, changed)]
    else:
        valid = {row: True for row in rows}
        left = [row for row in all_rows(size) if row in valid or contains(row, changed)]
    if not have_both_bits(size, left):
        raise InvalidEdit("some key would not have both bits")
    return (size, tuple(left))
