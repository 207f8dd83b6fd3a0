"""Policies: the class of all of them, tables of functions, and copies of a replica."""

from keywise.errors import InvalidNumber, InvalidPolicy, InvalidRow, InvalidRule, TooLarge
from keywise.policies.merges import merges_into, set_of
from keywise.rules.rules import check_between, check_key, check_rule, check_size, is_between, is_row, is_size
from keywise.rules.rules import row_number, row_with

MAX_REPLICAS = 6
MAX_MERGES = 20000


class Policy:
    """What all policies have. Policies are made by the classes below this one, and they never change."""

    def __init__(self, functions):
        self._functions = functions
        self._replicas = len(functions[0]).bit_length() - 1

    @property
    def size(self):
        """The number of keys."""
        return len(self._functions)

    @property
    def replicas(self):
        """The number of replicas."""
        return self._replicas

    @property
    def functions(self):
        """The tuple of the functions of all keys."""
        return self._functions

    def __len__(self):
        return len(self._functions)

    def __getitem__(self, at):
        check_key(len(self._functions), at)
        return self._functions[at]

    def __iter__(self):
        raise TypeError("a policy is not iterated over")

    def bit(self, key, bits):
        """Return the result of the function of the key for a tuple of one bit for each replica."""
        check_key(self.size, key)
        if not are_bits(self.replicas, bits):
            raise InvalidRow("not a tuple of one bit for each replica")
        return result(self._functions[key], bits)

    def __call__(self, rows):
        """Return the row into which the policy merges a tuple of one row for each replica."""
        return self._merge_checked(rows)

    def merged(self, *rows):
        """Return the row into which the policy merges these rows, one for each replica."""
        return self._merge_checked(rows)

    def copied(self):
        """Return the replica that the policy copies, or None."""
        for replica in range(self.replicas):
            copying = copying_function(self.replicas, replica)
            if all([function == copying for function in self._functions]):
                return replica
        return None

    def on(self, keys):
        """Return the Table with the functions of these keys, in this order."""
        if not are_different_keys(self.size, keys):
            raise InvalidNumber(keys)
        return Table(tuple([self._functions[key] for key in keys]))

    def keeps(self, rule):
        """Return whether the policy keeps the rule."""
        return self.broken_merge(rule) is None

    def broken_merge(self, rule):
        """Return valid rows that the policy merges into a row that is not valid, or None if it keeps the rule."""
        check_rule(rule)
        if rule[0] != self.size:
            raise InvalidRule("the rule and the policy do not have the same size")
        return self._broken_rows(rule)

    def __eq__(self, other):
        return isinstance(other, Policy) and self._functions == other._functions

    def __str__(self):
        return f"policy {words(self._functions)}"

    def _merge_checked(self, rows):
        """Return the row into which these values are merged, which must be one row for each replica."""
        if not are_rows(self.size, rows) or len(rows) != self.replicas:
            raise InvalidRow(f"not {self.replicas} rows of the size {self.size}")
        return self._merge(rows)

    def _merge(self, rows):
        """Return the row into which the policy merges these rows."""
        return tuple([result(function, [row[key] for row in rows]) for key, function in enumerate(self._functions)])

    def _broken_rows(self, rule):
        """Return a broken merge, or None. This goes through all merges; where more is known, there are faster ways."""
        numbers = [row_number(row) for row in rule[1]]
        all_numbers = (1 << (1 << self.size)) - 1
        broken = merges_into(self._functions, [numbers] * self.replicas, all_numbers & ~set_of(numbers))
        for rows in broken.values():
            return tuple([row_with(self.size, number) for number in rows])
        return None


class Table(Policy):
    """The policy with given functions."""

    def __init__(self, functions):
        if not are_functions(functions):
            raise InvalidPolicy("not one to seven functions for one number of replicas")
        super().__init__(functions)

    @classmethod
    def of(cls, policy):
        """Return the Table with the functions of a policy."""
        check_policy(policy)
        return cls(policy.functions)

    def __str__(self):
        return f"table {words(self._functions)}"

    def _broken_rows(self, rule):
        if is_too_many(len(rule[1]), self.replicas):
            raise TooLarge(MAX_MERGES)
        return super()._broken_rows(rule)


class Copy(Policy):
    """The policy that copies one replica."""

    def __init__(self, replicas, size, replica):
        check_replicas(replicas)
        check_size(size)
        check_between(0, replicas - 1, replica)
        super().__init__((copying_function(replicas, replica),) * size)
        self._replica = replica

    def __str__(self):
        return f"copy {self._replica} of {self._replicas} for {len(self._functions)} keys"

    def _broken_rows(self, rule):
        # A copy of a valid row is valid.
        return None


def check_replicas(replicas):
    """Raise the error for a number of replicas that is none."""
    check_between(2, MAX_REPLICAS, replicas)


def check_policy(policy):
    """Raise the error for a policy that is none."""
    if not isinstance(policy, Policy):
        raise InvalidPolicy("not a policy")


def check_policy_of(size, policy):
    """Raise the error for a policy of the size that is none."""
    check_policy(policy)
    if policy.size != size:
        raise InvalidPolicy(f"not a policy of the size {size}")


def check_odd_replicas(replicas):
    """Raise the error for a number of replicas that is neither 3 nor 5."""
    if not is_between(3, 5, replicas) or replicas == 4:
        raise InvalidNumber(replicas)


def is_too_many(base, exponent):
    """Return whether the number base to the power of the exponent is greater than MAX_MERGES."""
    power = 1
    for _ in range(exponent):
        power *= base
    return power > MAX_MERGES


def are_bits(many, value):
    """Return whether the value is a tuple of so many bits."""
    return isinstance(value, tuple) and len(value) == many and all([is_between(0, 1, bit) for bit in value])


def are_rows(size, value):
    """Return whether the value is a tuple of rows of the size."""
    return isinstance(value, tuple) and all([is_row(size, row) for row in value])


def are_different_keys(size, value):
    """Return whether the value is a tuple of one or more different keys of the size."""
    if not isinstance(value, tuple) or not all([is_between(0, size - 1, key) for key in value]):
        return False
    return 0 < len(value) == len(set(value))


def is_function(replicas, value):
    """Return whether the value is a function for so many replicas."""
    return are_bits(1 << replicas, value) and value[0] == 0 and value[-1] == 1


def are_functions(value):
    """Return whether the value is a tuple of one to seven functions for one number of replicas."""
    if not isinstance(value, tuple) or not is_size(len(value)):
        return False
    fitting = [n for n in range(2, MAX_REPLICAS + 1) if all([is_function(n, function) for function in value])]
    return len(fitting) == 1


def tuples_of_bits(many):
    """Return the ascending list of all tuples of so many bits."""
    return [tuple([(number >> (many - 1 - at)) & 1 for at in range(many)]) for number in range(1 << many)]


def copying_function(replicas, replica):
    """Return the function that returns the bit of this replica."""
    return tuple([bits[replica] for bits in tuples_of_bits(replicas)])


def counting_function(replicas, results):
    """Return the function whose result for k bits that are 1 is the result with the number k."""
    return tuple([results[sum(bits)] for bits in tuples_of_bits(replicas)])


def result(function, bits):
    """Return the result of the function for these bits."""
    at = 0
    for bit in bits:
        at = 2 * at + bit
    return function[at]


def words(functions):
    """Return the texts of the functions, separated by blanks."""
    return " ".join(["".join([str(bit) for bit in function]) for function in functions])
