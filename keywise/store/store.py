"""A store: replicas with rows of their own that exchange messages in any order."""

from keywise.errors import Broken, InvalidMessage, InvalidNumber, InvalidOperation, InvalidPartial, InvalidRow
from keywise.errors import KeywiseError, Refused
from keywise.patterns.patterns import pattern_within
from keywise.policies.policies import check_policy_of
from keywise.rules.rules import are_literals, check_between, check_row, check_rule, is_between, is_one_of, is_pair
from keywise.rules.rules import is_partial, is_row, is_valid
from keywise.store.undoing import check_many


class Store:
    """Replicas that show valid rows, because a policy that keeps the rule merges what they know."""

    WORDS = ("write", "deliver", "exchange")

    def __init__(self, rule, policy, first):
        check_rule(rule)
        check_policy_of(rule[0], policy)
        if not is_valid(rule, first):
            raise InvalidRow("not a valid row of the rule")
        broken = policy.broken_merge(rule)
        if broken is not None:
            raise Broken(broken)
        self._rule = rule
        self._policy = policy
        # All rows that each replica has had: the version of a row is its position.
        self._rows = [[first] for _ in range(policy.replicas)]
        # The versions that each replica knows of each one, at first and after each operation of the log.
        self._states = [((0,) * policy.replicas,) * policy.replicas]
        self._log = []
        # The last one is made again first.
        self._undone = []

    @property
    def rule(self):
        """The rule."""
        return self._rule

    @property
    def policy(self):
        """The policy."""
        return self._policy

    @property
    def log(self):
        """The tuple of the operations that have not been undone."""
        return tuple(self._log)

    @property
    def versions(self):
        """The tuple of the versions of the own rows."""
        return tuple([known[replica] for replica, known in enumerate(self._states[-1])])

    @property
    def agreed(self):
        """Whether all replicas know the same."""
        state = self._states[-1]
        return all([known == state[0] for known in state])

    def own(self, replica):
        """Return the own row of the replica."""
        self._check_replica(replica)
        return self._rows[replica][-1]

    def shown(self, replica):
        """Return the row that the replica shows."""
        self._check_replica(replica)
        return self._merged(self._states[-1][replica])

    def known(self, replica):
        """Return the tuple of the rows that the replica knows."""
        self._check_replica(replica)
        return self._rows_at(self._states[-1][replica])

    def outgoing(self, replica):
        """Return the message of the contributions that the replica knows."""
        self._check_replica(replica)
        return self._message(self._states[-1][replica])

    def is_message(self, value):
        """Return whether the value is a message."""
        if not isinstance(value, tuple) or len(value) != len(self._rows):
            return False
        return all([self._is_contribution(replica, part) for replica, part in enumerate(value)])

    def history(self, replica):
        """Yield the row that the replica showed at first, and after each operation of the log."""
        self._check_replica(replica)
        # What happens to the store later does not change what has begun to be told.
        shown = [self._merged(state[replica]) for state in self._states]
        for row in shown:
            yield row

    def __len__(self):
        return len(self._log)

    def __contains__(self, value):
        shown = [self._merged(known) for known in self._states[-1]]
        return is_one_of(self._rule[0], shown, value)

    def __str__(self):
        return f"store of {len(self._rows)} replicas, {len(self._log)} operations"

    def __eq__(self, other):
        if not isinstance(other, Store) or self._rule != other._rule or self._policy != other._policy:
            return False
        return self._rows[0][0] == other._rows[0][0] and self._messages() == other._messages()

    def write(self, replica, row):
        """Give the replica this own row, and return its version."""
        self._write(replica, row)
        self._undone = []
        return self.versions[replica]

    def put(self, replica, *literals):
        """Give the replica its own row with the bits of these literals, and return the version."""
        self._check_replica(replica)
        if not are_literals_of_keys(self._rule[0], literals):
            raise InvalidPartial("not literals with different keys")
        bits = dict(literals)
        row = tuple([bits.get(key, bit) for key, bit in enumerate(self._rows[replica][-1])])
        return self.write(replica, row)

    def deliver(self, replica, message):
        """Deliver a message, and return the replicas of which this replica now knows a greater version."""
        self._deliver(replica, message)
        self._undone = []
        before, now = self._states[-2][replica], self._states[-1][replica]
        return tuple([other for other in range(len(now)) if before[other] < now[other]])

    def exchange(self, *replicas):
        """Let all these replicas know what one of them knows, and return the row that all of them show then."""
        self._exchange(replicas)
        self._undone = []
        return self._merged(self._states[-1][replicas[0]])

    def apply_all(self, *operations):
        """Perform the operations one after another, all or none, and return the length of the log."""
        if not all([has_form(operation) for operation in operations]):
            raise InvalidOperation("not an operation")
        begun = len(self._log)
        try:
            for operation in operations:
                self._perform(operation)
        except (KeywiseError, InvalidNumber, Refused):
            self._go_back(begun)
            raise
        if operations:
            self._undone = []
        return len(self._log)

    def undo(self, *, many=1):
        """Undo the last operations, and return the length of the log."""
        check_many(many, len(self._log))
        left = len(self._log) - many
        self._undone = self._undone + self._log[left:][::-1]
        self._go_back(left)
        return len(self._log)

    def redo(self, *, many=1):
        """Perform undone operations again, the last undone one first, and return the length of the log."""
        check_many(many, len(self._undone))
        for _ in range(many):
            self._perform(self._undone.pop())
        return len(self._log)

    def twin(self):
        """Return an independent store that is equal to this one."""
        made = Store(self._rule, self._policy, self._rows[0][0])
        made.apply_all(*self._log)
        return made

    def _check_replica(self, replica):
        check_between(0, len(self._rows) - 1, replica)

    def _is_contribution(self, replica, value):
        """Return whether the value is a contribution of the replica."""
        if not is_pair(value):
            return False
        version, row = value
        rows = self._rows[replica]
        return is_between(0, len(rows) - 1, version) and is_row(self._rule[0], row) and rows[version] == row

    def _rows_at(self, versions):
        """Return the rows of the replicas that have these versions."""
        return tuple([rows[version] for rows, version in zip(self._rows, versions)])

    def _merged(self, versions):
        """Return the row into which the rows with these versions are merged."""
        return self._policy._merge(self._rows_at(versions))

    def _message(self, versions):
        """Return the message of the contributions with these versions."""
        return tuple(zip(versions, self._rows_at(versions)))

    def _messages(self):
        """Return the messages of all replicas."""
        return [self._message(known) for known in self._states[-1]]

    def _put_into_log(self, operation, changed):
        """Put the operation into the log, with a dict from the changed replicas to the versions that they know now."""
        state = self._states[-1]
        self._states.append(tuple([changed.get(replica, known) for replica, known in enumerate(state)]))
        self._log.append(operation)

    def _write(self, replica, row):
        self._check_replica(replica)
        size, rows = self._rule
        check_row(size, row)
        if row not in rows:
            raise Refused(pattern_within(self._rule, tuple(enumerate(row))))
        known = self._states[-1][replica]
        version = len(self._rows[replica])
        self._rows[replica].append(row)
        self._put_into_log(("write", replica, row), {replica: known[:replica] + (version,) + known[replica + 1:]})

    def _deliver(self, replica, message):
        self._check_replica(replica)
        if not self.is_message(message):
            raise InvalidMessage("not a message of the store")
        told = tuple([version for version, _ in message])
        self._put_into_log(("deliver", replica, message), {replica: newest([self._states[-1][replica], told])})

    def _exchange(self, replicas):
        for replica in replicas:
            self._check_replica(replica)
        if not replicas or len(set(replicas)) < len(replicas):
            raise InvalidOperation("no replicas, or one of them twice")
        known = newest([self._states[-1][replica] for replica in replicas])
        self._put_into_log(("exchange", replicas), {replica: known for replica in replicas})

    def _perform(self, operation):
        """Perform an operation that has the form of one."""
        word, *values = operation
        if word == "write":
            self._write(*values)
        elif word == "deliver":
            self._deliver(*values)
        else:
            self._exchange(*values)

    def _go_back(self, length):
        """Restore everything as it was when the log had this length."""
        del self._log[length:]
        del self._states[length + 1:]
        self._rows = [rows[:version + 1] for rows, version in zip(self._rows, self.versions)]


def are_literals_of_keys(size, value):
    """Return whether the value is a tuple of literals of the size with different keys, in any order."""
    return are_literals(size, value) and is_partial(size, tuple(sorted(value)))


def has_form(value):
    """Return whether the value has the form of an operation."""
    if not isinstance(value, tuple) or not value or value[0] not in Store.WORDS:
        return False
    if value[0] == "exchange":
        return len(value) == 2 and isinstance(value[1], tuple)
    return len(value) == 3


def newest(all_versions):
    """Return the greatest version of each replica among several versions."""
    return tuple([max(versions) for versions in zip(*all_versions)])
