"""The examples of the document, word for word."""

import unittest
from pathlib import Path

from keywise import errors
from keywise.choices import arrows, choices
from keywise.decide import decide
from keywise.envelopes import envelopes
from keywise.lattice import lattice
from keywise.levels import levels, thresholds
from keywise.operations import operations
from keywise.parity import parity
from keywise.patterns import patterns
from keywise.policies import policies
from keywise.rules import formulas, rules
from keywise.store import forecasts, store
from keywise.text import formats, shell
from keywise.workspace import workspace
from tests.support import run_examples

RULES = """
>>> IMPLY = (2, ((0, 0), (0, 1), (1, 1)))
>>> ONE = (3, ((0, 0, 1), (0, 1, 0), (1, 0, 0)))
>>> EVEN = (3, ((0, 0, 0), (0, 1, 1), (1, 0, 1), (1, 1, 0)))
>>> ATMOST = (3, ((0, 0, 0), (0, 0, 1), (0, 1, 0), (1, 0, 0)))
"""

STAGE_1 = """
>>> [is_row(2, (0, 1)), is_partial(3, ((0, 1), (2, 0))), is_partial(3, ((2, 0), (0, 1))), is_rule((2, ((0, 0), (0, 1))))]
[True, True, False, False]
>>> [make_rule(2, (1, 1), (0, 0), (0, 1), (0, 0)) == IMPLY, rule_where(3, lambda row: sum(row) == 1) == ONE]
[True, True]
>>> make_rule(2, (0, 0), (0, 1))
raises InvalidRule
>>> [is_valid(ONE, (0, 1, 0)), list(rows_with(ONE, ((0, 0),))), forced(ONE, ((0, 1),)), forced(ATMOST, ())]
[True, [(0, 0, 1), (0, 1, 0)], ((0, 1), (1, 0), (2, 0)), ()]
"""

STAGE_2 = """
>>> a, b, c = Formula.key(0), Formula.key(1), Formula.key(2)
>>> [str(~(a & b)), str(Formula.containing(((0, 1), (2, 0)))), (a ^ b)((1, 0)), Formula.at_least(2, a, b, c)((1, 0, 0))]
['not (x0 and x1)', 'at least 2 of (x0, not x2)', True, False]
>>> [len(~(a & b)), (~(a & b)).depth, (c | a).used, Formula.read("(x0 implies x1)") == (a >> b), (a | b) == (b | a)]
[4, 3, (0, 2), True, False]
>>> Formula.read("(x0 and x1 and x2)")
raises ParseError
>>> [rule_of(2, a >> b) == IMPLY, rule_of(3, ~Formula.at_least(2, a, b, c)) == ATMOST, rule_of(3, ~(a ^ b ^ c)) == EVEN]
[True, True, True]
>>> rule_of(2, a)
raises InvalidRule
>>> [holds_in(ONE, a >> ~b), failing_row(ONE, a | b)]
[True, (0, 0, 1)]
"""

STAGE_3 = """
>>> [patterns(IMPLY), patterns(ATMOST)]
[(((0, 1), (1, 0)),), (((0, 1), (1, 1)), ((0, 1), (2, 1)), ((1, 1), (2, 1)))]
>>> [len(patterns(ONE)), is_pattern(ONE, ((0, 0), (1, 0), (2, 0))), is_pattern(ONE, ((0, 1), (1, 1), (2, 0)))]
[4, True, False]
>>> [pattern_within(ONE, ((0, 1), (1, 1), (2, 1))), pattern_within(ONE, ((0, 0), (1, 0)))]
[((0, 1), (1, 1)), None]
>>> [pattern_rows(ONE, ((0, 0), (1, 0), (2, 0))), is_pattern_paper(IMPLY, (((0, 1), (1, 0)), ((0, 0), (1, 1))))]
[((1, 0, 0), (0, 1, 0), (0, 0, 1)), True]
>>> rule_of_patterns(2, (((0, 1), (1, 0)),)) == IMPLY
True
>>> [gives(IMPLY, (((0, 1), (1, 0)),)), gives(IMPLY, ())]
[True, False]
"""

STAGE_4 = """
>>> both, any_of = (0, 0, 0, 1), (0, 1, 1, 1)
>>> table = Table((both, any_of))
>>> [table(((0, 1), (1, 1))), table.merged((0, 0), (1, 1)), table[1], table.copied(), table.keeps(IMPLY), str(table)]
[(0, 1), (0, 1), (0, 1, 1, 1), None, True, 'table 0001 0111']
>>> sorted(Table((any_of, both)).broken_merge(IMPLY))
[(0, 0), (1, 1)]
>>> copy = Copy(3, 2, 1)
>>> [copy[0], copy(((0, 0), (0, 1), (1, 1))), copy.copied(), copy.on((1,)) == Copy(3, 1, 1), Table.of(copy) == copy]
[(0, 0, 1, 1, 0, 0, 1, 1), (0, 1), 1, True, True]
"""

STAGE_5 = """
>>> [arrows(IMPLY), len(arrows(ATMOST)), len(arrows(ONE))]
[(((0, 1), (1, 1)), ((1, 0), (0, 0))), 6, 12]
>>> [arrow_pattern(ONE, (1, 0), (2, 1)), arrow_pattern(ONE, (1, 0), (2, 0)), reached(ATMOST, (0, 1)), reached(ATMOST)]
[((0, 0), (1, 0), (2, 0)), None, ((0, 1), (1, 0), (2, 0)), ()]
>>> [components(IMPLY), len(components(ONE))]
[(((0, 1),), ((1, 0),), ((0, 0),), ((1, 1),)), 1]
>>> walk(ONE, (0, 1), (0, 0))
(((0, 1), ((0, 1), (1, 1))), ((1, 0), ((0, 0), (1, 0), (2, 0))), ((2, 1), ((0, 1), (2, 1))), ((0, 0), None))
>>> [walk(IMPLY, (1, 1), (0, 1)), walk(IMPLY, (1, 1), (1, 1))]
[None, (((1, 1), None),)]
"""

STAGE_6 = """
>>> choice = Choice(2, ((1, 1),))
>>> [choice(((1, 1), (0, 0))), choice.keeps(IMPLY), choice.functions, wins_of(Copy(2, 2, 1))]
[(0, 1), True, ((0, 1, 0, 1), (0, 1, 1, 1)), ()]
>>> [Choice(2, ((0, 1),)).keeps(IMPLY), Choice(2, ((0, 1),)).broken_merge(IMPLY), str(Choice(3, ((0, 1), (2, 0))))]
[False, ((1, 1), (0, 0)), 'choice of 3 keys: 0=1 2=0']
>>> [count_choices(IMPLY), count_choices(ATMOST), list(choices(ONE)), is_choice(IMPLY, ((0, 1),))]
[9, 18, [(), ((0, 0), (0, 1), (1, 0), (1, 1), (2, 0), (2, 1))], False]
>>> list(choices(IMPLY))[:4]
[(), ((0, 0),), ((0, 0), (0, 1), (1, 0), (1, 1)), ((0, 0), (0, 1), (1, 1))]
>>> [least_choice(ATMOST, wanted=((0, 1),)), greatest_choice(ATMOST, unwanted=((0, 0),))]
[((0, 1), (1, 0), (2, 0)), ((0, 1), (1, 0), (2, 0))]
>>> [least_choice(ATMOST), least_choice(IMPLY, wanted=((0, 1),), unwanted=((1, 1),))]
[(), None]
"""

STAGE_7 = """
>>> [Thresholds(3, (1, 2, 3)).levels, Thresholds.majority(3).numbers, Thresholds(3, (1, 2, 3)).load(((0, 0), (2, 0)))]
[((0, 1), (1, 2), (1, 1)), (2, 2, 2), 2]
>>> list(thresholds(ATMOST, 2))
[(1, 2, 2), (2, 1, 2), (2, 2, 1), (2, 2, 2)]
>>> [count_thresholds(IMPLY, 3), count_thresholds(IMPLY, 3, given=((0, 2),)), count_thresholds(ONE, 4)]
[6, 2, 0]
>>> heaviest_pattern(ONE, Thresholds.majority(3))
(((0, 0), (1, 0), (2, 0)), 3)
>>> [number_range(IMPLY, Thresholds(3, (2, 2)), 0), number_range(IMPLY, Thresholds(3, (2, 2)), 1), number_range(ONE, Thresholds(2, (2, 2, 2)), 0)]
[(2, 3), (1, 2), None]
"""

STAGE_8 = """
>>> [falsity_sum(((2, 5), (2, 5), (2, 5)), ((0, 0), (1, 0), (2, 1))), numbers_for(((0, 1), (1, 2)), 3), numbers_for(((0, 1), (1, 2)), 4)]
[(7, 5), (1, 2), None]
>>> [tension(ONE), tension(EVEN), tension(ATMOST)]
[(6, 5), (3, 2), (0, 1)]
>>> W = ((((0, 0), (1, 0), (2, 0)), 2), (((0, 1), (1, 1)), 1), (((0, 1), (2, 1)), 1), (((1, 1), (2, 1)), 1))
>>> is_tension_paper(ONE, ((6, 5), ((2, 5), (2, 5), (2, 5)), W))
True
>>> worst_patterns(ONE, ((1, 2), (1, 2), (1, 2)))
((3, 2), (((0, 0), (1, 0), (2, 0)),))
>>> [least_replicas(ATMOST), least_replicas(ONE)]
[2, None]
>>> [is_order_paper(IMPLY, ("order", ((0, 1), (1, 0)))), is_order_paper(IMPLY, ("order", ((0, 0), (1, 1)))), order_paper(ONE)[0]]
[True, False, 'cycle']
>>> order_levels(((0, 1), (1, 0)))
((8, 9), (1, 3))
"""

STAGE_9 = """
>>> policy = Sides(3, (0, 1))
>>> [policy(((0, 1), (1, 0), (1, 0))), policy.keeps(IMPLY), Sides(2, (1, 0)).keeps(IMPLY), str(policy)]
[(0, 1), True, False, 'sides of 3: min max']
>>> [Sides(2, (0, 1)) == Choice(2, ((0, 0), (1, 1))), Sides(2, (0, 1)) == policy]
[True, False]
>>> [sides_paper(ONE)[0], is_sides_paper(ATMOST, ("sides", (0, 0, 1))), is_sides_paper(ATMOST, ("sides", (0, 1, 1)))]
['walk', True, False]
>>> [list(all_sides(ATMOST)), count_sides(ONE), forced_sides(IMPLY), forced_sides(ONE)]
[[(0, 0, 0), (0, 0, 1), (0, 1, 0), (1, 0, 0)], 0, {}, None]
>>> forced_sides(rule_of_patterns(3, (((0, 0), (1, 0)), ((0, 0), (2, 0)), ((0, 1), (1, 1), (2, 1)))))
{0: 1, 1: 0, 2: 0}
>>> [fold(Sides(2, (0, 1)), ((1, 0), (1, 1), (1, 0))), fold(Copy(2, 2, 1), ((1, 0), (0, 1)))]
[(1, 1), (0, 1)]
"""

STAGE_10 = """
>>> policy = Parity(3, 3)
>>> [policy(((0, 1, 1), (1, 0, 1), (0, 0, 0))), policy.keeps(EVEN), policy.keeps(ATMOST), str(policy)]
[(1, 1, 0), True, False, 'parity of 3 for 3 keys']
>>> [list(solutions(2, (((0, 1), 1),))), reduced(3, (((0, 1), 1), ((0, 2), 0), ((1, 2), 1))), reduced(2, (((0,), 1), ((0,), 0)))]
[[(0, 1), (1, 0)], (((0, 2), 0), ((1, 2), 1)), None]
>>> [row_sum(3, (0, 0, 1), (0, 1, 0), (1, 0, 0)), follows(3, (((0, 1), 1), ((0, 2), 0)), ((1, 2), 1))]
[(1, 1, 1), True]
>>> [equations(EVEN), equations(ONE), parity_paper(EVEN)[0], parity_paper(ONE)[0]]
[(((0, 1, 2), 0),), None, 'equations', 'rows']
>>> [is_parity_paper(EVEN, ("equations", (((0, 1, 2), 0), ((0, 1, 2), 0)))), is_parity_paper(ONE, ("rows", ((1, 0, 0), (0, 1, 0), (0, 0, 1))))]
[True, True]
"""

STAGE_11 = r"""
>>> [decision(IMPLY)[0], decision(EVEN)[0], decision(ONE)[0]]
['policy', 'policy', 'obstruction']
>>> [is_decision(IMPLY, ("policy", Sides(2, (0, 0)))), is_decision(IMPLY, ("policy", Copy(2, 2, 0))), is_decision(EVEN, ("policy", Parity(3, 3)))]
[True, False, True]
>>> [judged(ONE, Copy(4, 3, 2)), judged(ATMOST, Sides(2, (0, 0, 0))), judged(ONE, Thresholds(3, (2, 2, 2)))[0]]
[('copies', 2), ('keeps',), 'breaks']
>>> is_judgement(ONE, Thresholds(3, (2, 2, 2)), ("breaks", ((1, 0, 0), (0, 1, 0), (0, 0, 1))))
True
>>> copied_replica(ONE, Copy(2, 3, 1))
1
>>> copied_replica(ONE, Sides(2, (0, 0, 0)))
raises Broken
"""

STAGE_12 = r"""
>>> least = Sides(2, (0, 0, 0))
>>> [envelope(ONE, least) == ATMOST, envelope(ONE) == ONE, envelope_of(ONE, (Parity(3, 3),))[1]]
[True, True, ((0, 0, 1), (0, 1, 0), (1, 0, 0), (1, 1, 1))]
>>> len(envelope(ONE, least, Parity(3, 3))[1])
8
>>> list(rounds(ONE, (Sides(2, (0, 0, 0)), Parity(3, 3))))
[((0, 0, 0), (1, 1, 1)), ((0, 1, 1), (1, 0, 1), (1, 1, 0))]
>>> [membership(ONE, (), (0, 0, 1)), membership(ONE, (least,), (1, 1, 0))[0]]
[('derived', ()), 'barrier']
>>> is_membership(ONE, (least,), (1, 1, 0), ("barrier", ATMOST))
True
>>> [is_derivation(ONE, (), (0, 0, 1), ()), is_derivation(ONE, (), (1, 1, 1), ())]
[True, False]
>>> is_derivation(ONE, (Parity(3, 3),), (1, 1, 1), (((1, 1, 1), 0, ((0, 0, 1), (0, 1, 0), (1, 0, 0))),))
True
>>> thinned(ATMOST, (Sides(2, (0, 0, 0)),)) == ONE
True
"""

STAGE_13 = r"""
>>> [fixed(ATMOST, 0, 0), joined(EVEN, 0, 1)]
[((2, ((0, 0), (0, 1), (1, 0))), (1, 2), {0: 0}), ((1, ((0,), (1,))), (0,), {2: 0})]
>>> both(ATMOST, turned(ATMOST, 0, 1, 2))
raises InvalidOperation
>>> fixed(ATMOST, 0, 1)
raises InvalidOperation
>>> [hidden(ONE, 2), turned(IMPLY, 1), rearranged(IMPLY, (1, 0))]
[(2, ((0, 0), (0, 1), (1, 0))), (2, ((0, 0), (0, 1), (1, 0))), (2, ((0, 0), (1, 0), (1, 1)))]
>>> beside((1, ((0,), (1,))), IMPLY)
(3, ((0, 0, 0), (0, 0, 1), (0, 1, 1), (1, 0, 0), (1, 0, 1), (1, 1, 1)))
>>> [turned_policy(Sides(2, (0, 0)), 1) == Sides(2, (0, 1)), beside_policy(Copy(2, 1, 0), Copy(2, 2, 1)).copied()]
[True, None]
>>> [groups(ONE), groups(beside((1, ((0,), (1,))), IMPLY))]
[((0, 1, 2),), ((0,), (1, 2))]
"""

STAGE_14 = r"""
>>> store = Store(IMPLY, Sides(2, (0, 0)), (1, 1))
>>> [store.write(0, (0, 1)), store.shown(0), store.shown(1), store.versions, store.agreed]
[1, (0, 1), (1, 1), (1, 0), False]
>>> message = store.outgoing(0)
>>> [message, store.deliver(1, message), store.deliver(1, message), store.shown(1)]
[((1, (0, 1)), (0, (1, 1))), (0,), (), (0, 1)]
>>> store.put(0, (1, 0), (0, 1))
raises Refused(pattern=((0, 1), (1, 0)))
>>> [store.undo(many=3), store.shown(1), store.redo(), store.shown(0), len(store)]
[0, (1, 1), 1, (0, 1), 1]
"""

STAGE_15 = r"""
>>> least = Sides(3, (0, 0, 0))
>>> known = ((0, 0, 1), None, None)
>>> [shown_rows(ATMOST, least, known), settled(ATMOST, least, known), open_replicas(ATMOST, least, known, 2)]
[((0, 0, 0), (0, 0, 1)), {0: 0, 1: 0}, (1, 2)]
>>> [completion(ATMOST, least, known, (0, 0, 1)), completion(ATMOST, least, known, (1, 0, 0))]
[((0, 0, 1), (0, 0, 1), (0, 0, 1)), None]
>>> majority = Thresholds(3, (2, 2))
>>> [settled(IMPLY, majority, ((1, 1), (1, 1), None)), open_replicas(IMPLY, majority, ((1, 1), (0, 0), None), 0)]
[{0: 1, 1: 1}, (2,)]
"""

STAGE_16 = r"""
>>> space = Workspace(ATMOST, least=Sides(2, (0, 0, 0)), mine=Copy(2, 3, 1))
>>> [space.forbid(((0, 0), (1, 0), (2, 0))), space.rule == ONE, space.standing("mine"), space.decision()[0]]
[(('least', 'keeps', 'breaks'),), True, ('copies', 1), 'obstruction']
>>> [space.undo(), space.decision()[0], space.computed, str(space)]
[(('least', 'breaks', 'keeps'),), 'policy', 2, '3 keys, 4 rows, 3 patterns']
"""

STAGE_17 = r"""
>>> [format_row((0, 1, 0)), format_rule(IMPLY), format_partial(3, ((0, 1), (2, 0))), format_partial(3, ()), format_equations(3, (((0, 1, 2), 0),))]
['010', '00 01 11', '0=1 2=0', 'none', '0+1+2=0']
>>> [parse_rule("001 010 100") == ONE, parse_equations(2, "0+1=1, 1=0"), parse_partial(3, "2=1")]
[True, (((0, 1), 1), ((1,), 0)), ((2, 1),)]
>>> parse_rule("01 00 11")
raises ParseError
>>> [format_fraction((-3, 2)), format_fraction((2, 1)), parse_fraction("6/5"), format_walk(IMPLY, walk(IMPLY, (0, 1), (1, 1)))]
['-3/2', '2', (6, 5), '0=1 -> 1=1']
>>> [parse_policy("sides of 2: min max max") == Sides(2, (0, 1, 1)), parse_policy("table 0001 0111") == Table(((0, 0, 0, 1), (0, 1, 1, 1)))]
[True, True]
>>> pattern_table(ONE)
'  0 3  0=0 1=0 2=0\n  1 2  0=1 1=1\n  2 2  0=1 2=1\n  3 2  1=1 2=1\ntension 6/5'
"""

STAGE_18 = r"""
>>> shell = Shell(ATMOST)
>>> list(shell.answers("watch least sides of 2: min min min", "forbid 0=0 1=0 2=0", "patterns", "undo 1", "rows 0=1"))
['keeps', 'least keeps breaks', '0=0 1=0 2=0; 0=1 1=1; 0=1 2=1; 1=1 2=1', 'least breaks keeps', '100']
>>> list(shell.answers("open 001 sides of 2: min min min", "send 0", "write 0 000", "deliver 0 1", "exchange 0 1", "settled 1 0"))
['ok', '0', '000', 'none', '000', '0=0 1=0 2=0']
>>> [shell.run("status"), len(shell), "write 0" in shell, "writes" in shell]
['3 keys, 4 rows, 3 patterns; store of 2 replicas, 3 operations', 12, True, False]
>>> shell.run("put 0 0=1 1=1")
raises Refused(pattern=((0, 1), (1, 1)))
>>> shell.run("show  0")
raises InvalidCommand
"""

MODULES = (
    errors, rules, formulas, patterns, policies, arrows, choices, thresholds, levels, lattice, parity, decide, envelopes,
    operations, store, forecasts, workspace, formats, shell,
)
TEXTS = (
    STAGE_1, STAGE_2, STAGE_3, STAGE_4, STAGE_5, STAGE_6, STAGE_7, STAGE_8, STAGE_9, STAGE_10, STAGE_11, STAGE_12,
    STAGE_13, STAGE_14, STAGE_15, STAGE_16, STAGE_17, STAGE_18,
)


class Examples(unittest.TestCase):
    def test_all_stages(self):
        for text in TEXTS:
            # The examples of a stage use the rules and what they name themselves, but not the names of other stages.
            names = {}
            for module in MODULES:
                names.update(vars(module))
            run_examples(self, RULES.rstrip() + text, names)

    def test_they_are_those_of_the_document(self):
        document = Path(__file__).resolve().parent.parent.parent / "shared" / "DOC.md"
        if document.is_file():
            lines = set(document.read_text(encoding="utf-8").split("\n"))
            for line in "".join((RULES,) + TEXTS).strip().split("\n"):
                self.assertIn(line, lines)


if __name__ == "__main__":
    unittest.main()
