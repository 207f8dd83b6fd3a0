"""Sums modulo 2, and equations of bits."""

from keywise.errors import InvalidFormula, InvalidRow
from keywise.policies.policies import Policy, are_rows, check_odd_replicas, counting_function
from keywise.rules.rules import all_rows, ascend, check_rule, check_size, is_between, is_pair, row_number


class Parity(Policy):
    """The policy that merges 3 or 5 rows into their sum modulo 2."""

    def __init__(self, replicas, size):
        check_odd_replicas(replicas)
        check_size(size)
        function = counting_function(replicas, [many & 1 for many in range(replicas + 1)])
        super().__init__((function,) * size)

    def __str__(self):
        return f"parity of {self._replicas} for {len(self._functions)} keys"

    def _broken_rows(self, rule):
        found = rows_with_wrong_sum(rule)
        # Two more equal rows do not change the sum.
        return None if found is None else found + found[:1] * (self.replicas - 3)


def rows_with_wrong_sum(rule):
    """Return three valid rows whose sum is not valid, or None."""
    _, rows = rule
    valid = {row_number(row): row for row in rows}
    # The sum of three rows is a sum of rows that are the first one plus something, so that one is enough.
    begin = row_number(rows[0])
    for first in valid:
        for second in valid:
            if begin ^ first ^ second not in valid:
                return (valid[begin], valid[first], valid[second])
    return None


def sum_of(size, rows):
    """Return the sum of the rows modulo 2."""
    return tuple([sum([row[key] for row in rows]) & 1 for key in range(size)])


def row_sum(size, *rows):
    """Return the sum of the rows modulo 2."""
    check_size(size)
    if not are_rows(size, rows):
        raise InvalidRow(f"not a row of the size {size}")
    return sum_of(size, rows)


def is_equation(size, value):
    """Return whether the value is an equation of the size."""
    if not is_pair(value):
        return False
    keys, bit = value
    if not isinstance(keys, tuple) or not all([is_between(0, size - 1, key) for key in keys]):
        return False
    return len(keys) > 0 and ascend(keys) and is_between(0, 1, bit)


def is_equations(size, value):
    """Return whether the value is equations of the size."""
    check_size(size)
    return isinstance(value, tuple) and all([is_equation(size, equation) for equation in value])


def check_equations(size, equations):
    """Raise the error for equations of the size that are none."""
    if not is_equations(size, equations):
        raise InvalidFormula(f"not equations of the size {size}")


def solves(row, equation):
    """Return whether the row solves the equation."""
    keys, bit = equation
    return sum([row[key] for key in keys]) & 1 == bit


def solutions(size, equations):
    """Yield the rows of the size that solve all equations, ascending."""
    check_equations(size, equations)
    for row in all_rows(size):
        if all([solves(row, equation) for equation in equations]):
            yield row


def equation_number(size, equation):
    """Return the number whose lowest bit is that of the equation, with a bit above it for each key, the last one first.

    So the highest bit stands for the leading key, and the numbers of two equations make that of their sum by `^`.
    """
    keys, bit = equation
    return sum([1 << (size - key) for key in keys]) + bit


def equation_of(size, number):
    """Return the equation with this number."""
    return (tuple([key for key in range(size) if (number >> (size - key)) & 1]), number & 1)


def reduced(size, equations):
    """Return the reduced equations with the same solutions, or None if there are no solutions."""
    check_equations(size, equations)
    found = []
    for equation in equations:
        number = equation_number(size, equation)
        # What is smaller lacks the highest bit of what was added to it.
        for other in found:
            number = min(number, number ^ other)
        if number == 1:
            return None
        if number > 0:
            found = [min(other, other ^ number) for other in found] + [number]
    return tuple([equation_of(size, number) for number in sorted(found, reverse=True)])


def follows(size, equations, equation):
    """Return whether each solution of the equations solves the equation."""
    check_equations(size, equations)
    check_equations(size, (equation,))
    return all([solves(row, equation) for row in solutions(size, equations)])


def common_equations(rule):
    """Return all equations that all valid rows solve, as a tuple."""
    size, rows = rule
    found = []
    for number in range(2, 2 << size, 2):
        keys, _ = equation_of(size, number)
        equation = (keys, sum([rows[0][key] for key in keys]) & 1)
        if all([solves(row, equation) for row in rows]):
            found.append(equation)
    return tuple(found)


def equations(rule):
    """Return the reduced equations whose solutions are the valid rows, or None if there are none."""
    check_rule(rule)
    size, rows = rule
    found = reduced(size, common_equations(rule))
    return found if 1 << (size - len(found)) == len(rows) else None


def parity_paper(rule):
    """Return equations of the rule, or rows if it has none, with the word for what it is."""
    check_rule(rule)
    wrong = rows_with_wrong_sum(rule)
    return ("equations", equations(rule)) if wrong is None else ("rows", wrong)


def is_parity_paper(rule, value):
    """Return whether the value is equations or rows that show whether a parity keeps the rule."""
    check_rule(rule)
    size, rows = rule
    if not is_pair(value):
        return False
    word, shown = value
    if word == "equations" and is_equations(size, shown):
        return rows == tuple(solutions(size, shown))
    if word != "rows" or not are_rows(size, shown) or len(shown) != 3:
        return False
    return all([row in rows for row in shown]) and sum_of(size, shown) not in rows
