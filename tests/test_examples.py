"""The examples of the document, word for word."""

import unittest

from keywise import errors
from keywise.rules import formulas, rules
from tests.support import run_examples

RULES = """
>>> IMPLY = (2, ((0, 0), (0, 1), (1, 1)))
>>> ONE = (3, ((0, 0, 1), (0, 1, 0), (1, 0, 0)))
>>> EVEN = (3, ((0, 0, 0), (0, 1, 1), (1, 0, 1), (1, 1, 0)))
>>> ATMOST = (3, ((0, 0, 0), (0, 0, 1), (0, 1, 0), (1, 0, 0)))
"""

STAGE_1 = """
>>> [is_row(2, (0, 1)), is_partial(3, ((0, 1), (2, 0))), is_partial(3, ((2, 0), (0, 1))), is_rule((2, ((0, 0), (0, 1))))]
[True, True, False, False]
>>> [make_rule(2, (1, 1), (0, 0), (0, 1), (0, 0)) == IMPLY, rule_where(3, lambda row: sum(row) == 1) == ONE]
[True, True]
>>> make_rule(2, (0, 0), (0, 1))
raises InvalidRule
>>> [is_valid(ONE, (0, 1, 0)), list(rows_with(ONE, ((0, 0),))), forced(ONE, ((0, 1),)), forced(ATMOST, ())]
[True, [(0, 0, 1), (0, 1, 0)], ((0, 1), (1, 0), (2, 0)), ()]
"""

STAGE_2 = """
>>> a, b, c = Formula.key(0), Formula.key(1), Formula.key(2)
>>> [str(~(a & b)), str(Formula.containing(((0, 1), (2, 0)))), (a ^ b)((1, 0)), Formula.at_least(2, a, b, c)((1, 0, 0))]
['not (x0 and x1)', 'at least 2 of (x0, not x2)', True, False]
>>> [len(~(a & b)), (~(a & b)).depth, (c | a).used, Formula.read("(x0 implies x1)") == (a >> b), (a | b) == (b | a)]
[4, 3, (0, 2), True, False]
>>> Formula.read("(x0 and x1 and x2)")
raises ParseError
>>> [rule_of(2, a >> b) == IMPLY, rule_of(3, ~Formula.at_least(2, a, b, c)) == ATMOST, rule_of(3, ~(a ^ b ^ c)) == EVEN]
[True, True, True]
>>> rule_of(2, a)
raises InvalidRule
>>> [holds_in(ONE, a >> ~b), failing_row(ONE, a | b)]
[True, (0, 0, 1)]
"""


class Examples(unittest.TestCase):
    def test_all_stages(self):
        names = {}
        for module in (errors, rules, formulas):
            names.update(vars(module))
        for text in (RULES, STAGE_1, STAGE_2):
            run_examples(self, text, names)


if __name__ == "__main__":
    unittest.main()
