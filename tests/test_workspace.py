"""Stage 16: a workspace."""

import random
import unittest

from keywise.choices.choices import Choice
from keywise.decide.decide import is_decision, is_judgement, judged
from keywise.errors import InvalidEdit, InvalidNumber, InvalidPartial, InvalidPolicy, InvalidRule, NothingToUndo
from keywise.errors import TooLarge, UnknownName
from keywise.lattice.lattice import Sides
from keywise.levels.thresholds import Thresholds
from keywise.parity.parity import Parity
from keywise.patterns.patterns import patterns
from keywise.policies.policies import Copy, Policy, Table
from keywise.store.store import Store
from keywise.workspace.workspace import Workspace
from tests import brute
from tests.support import ATMOST, EVEN, IMPLY, JUNK, ONE
from tests.support import brute_partials, brute_rows, brute_rules, check_errors, mutants, outcome, policies_of
from tests.support import rule_with_rows, sample_rules
from tests.test_rules import FREE_1, FREE_7, LAST_7, NO_RULES

LEAST, MAJORITY = Sides(2, (0, 0, 0)), Thresholds.majority(3)
REFUSED = (InvalidEdit, {})
LARGE = (TooLarge, {"limit": 20000})
NO_MANY = (-1, -10 ** 39, True, False, None, "1", (), (1,), [1], {1: 1}, Copy(2, 2, 0))


def changed(rule, edit):
    """The rule after an edit, or None if the edit is not possible."""
    word, value = edit
    if word == "replace":
        return value if value[0] == rule[0] else None
    hit = {row for row in brute_rows(rule[0]) if brute.contains(row, value)}
    rows = set(rule[1]) - hit if word == "forbid" else set(rule[1]) | hit
    if not rows or any(len({row[key] for row in rows}) == 1 for key in range(rule[0])):
        return None
    return (rule[0], tuple(sorted(rows)))


def word_of(rule, policy):
    if copies(policy) is not None:
        return "copies"
    return "breaks" if brute.broken(policy, rule) else "keeps"


def copies(policy):
    for replica in range(policy.replicas):
        if policy == Copy(policy.replicas, policy.size, replica):
            return replica
    return None


class Model:
    """A workspace as the document tells it, with all rules from the first one on."""

    def __init__(self, rule, policies):
        self.rules, self.log, self.undone, self.policies = [rule], [], [], dict(policies)
        self.asked = set()

    def news(self, before, after):
        every = [(name, word_of(before, policy), word_of(after, policy)) for name, policy in self.policies.items()]
        return tuple(sorted(each for each in every if each[1] != each[2]))

    def apply(self, edits):
        before = rule = self.rules[-1]
        for edit in edits:
            rule = changed(rule, edit)
            if rule is None:
                return REFUSED
        if edits:
            self.rules.append(rule)
            self.log.append(edits)
            self.undone = []
        return self.news(before, rule)

    def undo(self, many):
        before = self.rules[-1]
        for _ in range(many):
            self.undone.append((self.log.pop(), self.rules.pop()))
        return self.news(before, self.rules[-1])

    def redo(self, many):
        before = self.rules[-1]
        for _ in range(many):
            group, rule = self.undone.pop()
            self.log.append(group)
            self.rules.append(rule)
        return self.news(before, self.rules[-1])


def told(space):
    """All that a workspace tells, but for standings and decisions."""
    return repr((space.rule, space.patterns, list(space.policies), list(map(str, space.policies.values())), space.log,
                 space.computed, list(space.valid_rows()), len(space), str(space)))


def expected_of(model):
    rule = model.rules[-1]
    names = sorted(model.policies)
    text = f"{rule[0]} keys, {len(rule[1])} rows, {len(brute.patterns(rule))} patterns"
    return repr((rule, brute.patterns(rule), names, [str(model.policies[name]) for name in names], tuple(model.log),
                 len(model.asked), list(rule[1]), len(rule[1]), text))


def random_edit(chance, size, rules):
    word = chance.choice(("forbid", "allow", "forbid", "allow", "replace"))
    if word == "replace":
        return (word, chance.choice(rules))
    keys = sorted(chance.sample(range(size), chance.randrange(size + 1)))
    return (word, tuple((key, chance.randrange(2)) for key in keys))


class Working(unittest.TestCase):
    def test_against_a_plain_model(self):
        seen = {"news": 0, "refused": 0}
        for seed in range(14):
            chance = random.Random(seed)
            size = chance.choice((1, 2, 3, 3))
            rules = brute_rules(size)
            policies = {f"n{'abcdefg'[at]}": each for at, each in enumerate(policies_of(size, chance, (2, 3))) if each.replicas < 4}
            space, model = Workspace(chance.choice(rules), **policies), None
            model = Model(space.rule, policies)
            for _ in range(40):
                found = self.step(chance, space, model, rules)
                seen["news"] += type(found) is tuple and found != () and found != REFUSED
                seen["refused"] += found == REFUSED
                self.assertEqual(told(space), expected_of(model))
                if chance.random() < 0.3:
                    self.assertTrue(is_decision(space.rule, space.decision()))
                    model.asked.add(space.rule)
                for name, policy in model.policies.items():
                    standing = space.standing(name)
                    self.assertEqual(standing[0], word_of(space.rule, policy))
                    self.assertTrue(is_judgement(space.rule, policy, standing))
                    self.assertIs(space.is_standing(name, standing), True)
        self.assertGreater(min(seen.values()), 40)

    def step(self, chance, space, model, rules):
        chosen = chance.random()
        if chosen < 0.2:
            many = chance.randrange(min(4, len(model.log)) + 1)
            found, expected = space.undo(many=many), model.undo(many)
        elif chosen < 0.35:
            many = chance.randrange(min(4, len(model.undone)) + 1)
            found, expected = space.redo(many=many), model.redo(many)
        elif chosen < 0.6:
            edits = tuple(random_edit(chance, space.rule[0], rules) for _ in range(chance.randrange(4)))
            found, expected = outcome(space.apply, *edits), model.apply(edits)
        elif chosen < 0.7 and model.policies:
            name = chance.choice(sorted(model.policies))
            found, expected = space.unwatch(name), model.policies.pop(name)
        elif chosen < 0.75:
            policy = chance.choice(policies_of(space.rule[0], chance, (2, 3))[:6])
            name = chance.choice("pqrstu")
            if name in model.policies:
                found, expected = outcome(space.watch, name, policy), REFUSED
            else:
                model.policies[name] = policy
                found, expected = space.watch(name, policy)[0], word_of(space.rule, policy)
        else:
            edit = random_edit(chance, space.rule[0], rules)
            found, expected = outcome(getattr(space, edit[0]), edit[1]), model.apply((edit,))
        self.assertEqual(repr(found), repr(expected))
        return found

    def test_larger_rules(self):
        for rule in sample_rules(5, 3, 170) + [LAST_7, FREE_7, rule_with_rows(7, 60, 171)]:
            space = Workspace(rule, least=Sides(6, (0,) * rule[0]), pair=Table.of(Sides(2, (1,) * rule[0])))
            for edit in (("forbid", ((0, 0), (1, 0))), ("allow", ((0, 1), (1, 0))), ("replace", rule)):
                before = space.rule
                expected = changed(before, edit)
                found = outcome(getattr(space, edit[0]), edit[1])
                self.assertEqual(space.rule, before if expected is None else expected)
                self.assertEqual(found == REFUSED, expected is None)
                self.assertTrue(is_decision(space.rule, space.decision()))
                self.assertEqual(space.patterns, patterns(space.rule))


class Edits(unittest.TestCase):
    def test_edits_that_change_nothing(self):
        space = Workspace(ATMOST, least=LEAST)
        self.assertEqual(space.forbid(((0, 1), (1, 1))), ())
        self.assertEqual(space.allow(((0, 0), (1, 0))), ())
        self.assertEqual(space.replace(ATMOST), ())
        self.assertEqual(space.log, ((("forbid", ((0, 1), (1, 1))),), (("allow", ((0, 0), (1, 0))),), (("replace", ATMOST),)))
        self.assertEqual((space.rule, space.undo(many=3), space.log), (ATMOST, (), ()))

    def test_edits_that_are_not_possible(self):
        for edits in ((("forbid", ()),), (("forbid", ((2, 1),)),), (("forbid", ((0, 0),)),), (("replace", IMPLY),),
                      (("allow", ()), ("forbid", ()), ("allow", ())), (("allow", ()), ("replace", FREE_7)),
                      (("forbid", ((0, 0), (1, 0))), ("forbid", ((0, 0), (2, 0))))):
            space = Workspace(ATMOST, least=LEAST)
            space.allow(())
            space.undo()
            before = told(space)
            self.assertEqual(outcome(space.apply, *edits), REFUSED, edits)
            if len(edits) == 1:
                self.assertEqual(outcome(getattr(space, edits[0][0]), edits[0][1]), REFUSED)
            self.assertEqual(told(space), before)
            self.assertEqual(space.redo(), ())

    def test_possible_only_in_the_group(self):
        space = Workspace(ATMOST)
        edits = (("allow", ((0, 1), (1, 1))), ("forbid", ((0, 1), (1, 0))), ("forbid", ((0, 0), (1, 1))))
        self.assertEqual(space.apply(*edits), ())
        self.assertEqual((space.rule, space.log), ((3, ((0, 0, 0), (0, 0, 1), (1, 1, 0), (1, 1, 1))), (edits,)))
        self.assertEqual((space.undo(), space.rule, space.redo(), len(space)), ((), ATMOST, (), 4))

    def test_no_edits_are_no_group(self):
        space = Workspace(ATMOST, least=LEAST)
        space.replace(ONE)
        space.undo()
        self.assertEqual((space.apply(), space.log), ((), ()))
        self.assertEqual((space.redo(), space.rule), ((("least", "keeps", "breaks"),), ONE))

    def test_news_are_those_between_the_ends(self):
        space = Workspace(ATMOST, parity=Parity(3, 3), least=LEAST, mine=Copy(2, 3, 1))
        both = (("least", "keeps", "breaks"), ("parity", "breaks", "keeps"))
        self.assertEqual(space.apply(("replace", EVEN)), both)
        self.assertEqual(space.apply(("replace", ATMOST), ("replace", EVEN)), ())
        self.assertEqual(space.apply(("allow", ()), ("replace", ONE)), (("parity", "keeps", "breaks"),))
        self.assertEqual(space.undo(many=2), (("parity", "breaks", "keeps"),))
        self.assertEqual(space.undo(), (("least", "breaks", "keeps"), ("parity", "keeps", "breaks")))
        self.assertEqual(space.redo(many=3), (("least", "keeps", "breaks"),))
        self.assertEqual(space.undo(many=3), (("least", "breaks", "keeps"),))
        self.assertEqual((space.undo(many=0), space.redo(many=0)), ((), ()))

    def test_a_new_group_forgets_undone_ones(self):
        for edit in (lambda space: space.forbid(((0, 1), (1, 1))), lambda space: space.allow(()), lambda space: space.replace(ONE),
                     lambda space: space.apply(("replace", ATMOST))):
            space = Workspace(ATMOST)
            space.apply(("replace", EVEN), ("replace", ONE))
            space.undo()
            edit(space)
            self.assertEqual(outcome(space.redo), (NothingToUndo, {"many": 1}))
            self.assertEqual((len(space.log), space.redo(many=0)), (1, ()))

    def test_a_refused_one_and_watching_do_not(self):
        space = Workspace(ATMOST)
        space.replace(EVEN)
        space.undo()
        for wrong in (lambda: space.forbid(()), lambda: space.forbid(None), lambda: space.replace(IMPLY), lambda: space.replace(3),
                      lambda: space.apply(("replace", ONE), ("forbid", ())), lambda: space.apply(None), lambda: space.undo(),
                      lambda: space.redo(many=2), lambda: space.watch("A", LEAST), lambda: space.unwatch("a")):
            with self.assertRaises(Exception):
                wrong()
        space.watch("least", LEAST)
        self.assertEqual((space.redo(), space.rule), ((("least", "keeps", "breaks"),), EVEN))


class Watching(unittest.TestCase):
    def test_it_is_not_undone(self):
        space = Workspace(ATMOST)
        space.replace(ONE)
        self.assertEqual(space.watch("least", LEAST)[0], "breaks")
        self.assertEqual((len(space.log), space.undo()), (1, (("least", "breaks", "keeps"),)))
        self.assertEqual((space.standing("least"), space.unwatch("least")), (("keeps",), LEAST))
        self.assertEqual((space.redo(), space.policies), ((), {}))
        self.assertEqual(outcome(space.standing, "least"), (UnknownName, {"name": "least"}))

    def test_names(self):
        letters = "abcdefghijklmnopqrstuvwxyz"
        for name in list(letters) + ["abcdefgh", "rule", "self", "name", letters[-8:]]:
            space = Workspace(ATMOST)
            self.assertEqual(space.watch(name, LEAST), ("keeps",))
            self.assertEqual(list(space.policies), [name])
            self.assertEqual(outcome(space.watch, name, MAJORITY), REFUSED)
            self.assertIs(space.unwatch(name), LEAST)
            self.assertEqual(space.watch(name, MAJORITY), ("keeps",))
        for name in ("", "abcdefghi", "A", "aB", "a1", "1", "a b", " a", "a ", "a_b", "a-b", "a\n", "\n", "a" * 5000, "\u0430", "\u00e9") + (
                None, True, 1, ("a",), ["a"], {"a": 1}, LEAST, ("a", ["b"])):
            self.assertEqual(outcome(Workspace(ATMOST).watch, name, LEAST), REFUSED)

    def test_keyword_names(self):
        space = Workspace(ATMOST, zz=LEAST, policies=MAJORITY, aa=Copy(2, 3, 0), name=Parity(3, 3))
        self.assertEqual(list(space.policies), ["aa", "name", "policies", "zz"])
        self.assertEqual(space.standing("policies"), ("keeps",))
        great = Table.of(Sides(3, (0,) * 7))
        for policies, expected in (
            ({"b": None, "A": LEAST}, REFUSED), ({"a": None, "b1": LEAST}, (InvalidPolicy, {})), ({"b1": LEAST, "c": None}, REFUSED),
            ({"a": LEAST, "b": Copy(2, 2, 0)}, (InvalidPolicy, {})), ({"toolonger": LEAST}, REFUSED), ({"": LEAST}, REFUSED),
        ):
            self.assertEqual(outcome(Workspace, ATMOST, **policies), expected, policies)
        self.assertEqual(outcome(Workspace, FREE_7, a=great, b=None), LARGE)
        self.assertEqual(outcome(Workspace, FREE_7, b=great, a=None), (InvalidPolicy, {}))
        self.assertEqual(outcome(Workspace, None, A=None), (InvalidRule, {}))

    def test_any_standing(self):
        for rule, policy in ((ONE, MAJORITY), (ONE, LEAST), (EVEN, Parity(3, 3)), (EVEN, Parity(5, 3)), (ATMOST, Copy(4, 3, 2)),
                             (ONE, Choice(3, ((0, 1),)))):
            space = Workspace(rule, it=policy)
            if policy.replicas == 5:
                continue
            right = [repr(("breaks", rows)) for rows in brute.broken(policy, rule)]
            right = right or [repr(judged(rule, policy))]
            found = space.standing("it")
            values = list(mutants(found)) + list(JUNK) + [("breaks", rows) for rows in brute.broken(policy, rule)]
            values += [found, ("keeps",), ("copies", 2), ("copies", True), ("breaks", rule[1][:2]), ["keeps"], "keeps"]
            for value in values:
                self.assertIs(space.is_standing("it", value), repr(value) in right, value)


class Decisions(unittest.TestCase):
    def test_remembered_for_equal_rules(self):
        space = Workspace(ATMOST)
        self.assertEqual(space.computed, 0)
        first = space.decision()
        self.assertIs(space.decision(), first)
        self.assertEqual(space.computed, 1)
        space.replace(ONE)
        second = space.decision()
        self.assertEqual((second[0], space.computed), ("obstruction", 2))
        space.allow(((0, 0), (1, 0), (2, 0)))
        self.assertIs(space.decision(), first)
        space.undo(many=2)
        self.assertIs(space.decision(), first)
        space.apply(("replace", EVEN), ("replace", ONE))
        self.assertIs(space.decision(), second)
        self.assertEqual(space.computed, 2)
        space.replace(EVEN)
        self.assertEqual((space.computed, space.decision()[0], space.computed), (2, "policy", 3))

    def test_only_those_that_were_asked_for(self):
        space = Workspace(ATMOST, least=LEAST)
        space.replace(ONE)
        space.undo()
        space.standing("least")
        space.redo()
        self.assertEqual(space.computed, 0)


class Telling(unittest.TestCase):
    def test_rows_and_partial_rows(self):
        for rule in [IMPLY, ONE, EVEN, ATMOST, FREE_1] + brute_rules(2):
            space = Workspace(rule)
            for partial in brute_partials(rule[0]):
                rows = [row for row in rule[1] if brute.contains(row, partial)]
                self.assertEqual(repr(list(space.valid_rows(partial))), repr(rows))
                self.assertEqual(list(space.valid_rows(partial=partial)), rows)
                self.assertIs(partial in space, bool(rows))
        space = Workspace(ATMOST)
        space.replace(ONE)
        self.assertIs(((0, 0), (1, 0), (2, 0)) in space, False)
        space.apply(("replace", EVEN))
        self.assertIs(((0, 1), (1, 1)) in space, True)
        space = Workspace(IMPLY)
        right = {repr(partial) for partial in brute_partials(2) if brute.is_contained(IMPLY, partial)}
        for value in list(mutants(((0, 0), (1, 0)))) + list(JUNK) + [space, "0=0"]:
            self.assertIs(value in space, repr(value) in right, value)

    def test_generators_do_not_disturb_each_other(self):
        space = Workspace(ATMOST)
        first, second = space.valid_rows(), space.valid_rows(((2, 0),))
        self.assertEqual([next(first), next(second), next(first), next(second)], [(0, 0, 0), (0, 0, 0), (0, 0, 1), (0, 1, 0)])
        space.replace(EVEN)
        self.assertEqual((list(first), list(second)), ([(0, 1, 0), (1, 0, 0)], [(1, 0, 0)]))
        self.assertEqual(list(space.valid_rows(())), list(EVEN[1]))

    def test_equal_workspaces(self):
        space = Workspace(ATMOST, a=LEAST, b=MAJORITY)
        other = Workspace(ONE, b=Table.of(MAJORITY))
        other.watch("a", Table.of(LEAST))
        self.assertFalse(space == other)
        other.replace(ATMOST)
        other.decision()
        self.assertTrue(space == other and other == space and not space != other)
        for different in (Workspace(ATMOST, a=LEAST), Workspace(ATMOST, a=LEAST, c=MAJORITY), Workspace(ATMOST, a=MAJORITY, b=LEAST),
                          Workspace(ONE, a=LEAST, b=MAJORITY), Workspace(ATMOST, a=LEAST, b=MAJORITY, c=LEAST), Workspace(ATMOST)):
            self.assertFalse(space == different or different == space)
        for value in JUNK + (str(space), ATMOST, Workspace, Store(ATMOST, LEAST, (0, 0, 0))):
            self.assertIs(space == value, False)

    def test_properties_cannot_be_assigned(self):
        space = Workspace(ATMOST)
        for name in ("rule", "patterns", "policies", "log", "computed"):
            with self.assertRaises(AttributeError):
                setattr(space, name, ())

    def test_the_dict_of_policies_is_a_copy(self):
        given = {"b": LEAST, "a": MAJORITY}
        space = Workspace(ATMOST, **given)
        given["c"] = LEAST
        found = space.policies
        found["d"] = LEAST
        del found["a"]
        self.assertEqual(list(space.policies), ["a", "b"])
        self.assertIs(space.policies["b"], LEAST)


class Errors(unittest.TestCase):
    def test_edits(self):
        partials = tuple(value for value in JUNK if value != ()) + (((3, 0),), ((1, 0), (0, 0)), [(0, 1)], ((0, True),), "0=0")
        for method in ("forbid", "allow"):
            check_errors(self, lambda partial: getattr(Workspace(ATMOST), method)(partial), (((0, 1), (1, 1)),), (
                (0, partials, InvalidPartial),
            ))
            for partial in partials:
                self.assertEqual(outcome(Workspace(ATMOST).apply, (method, partial)), (InvalidPartial, {}))
        check_errors(self, lambda rule: Workspace(ATMOST).replace(rule), (ONE,), ((0, NO_RULES, InvalidRule),))
        self.assertEqual(outcome(Workspace(ATMOST).replace, IMPLY), REFUSED)
        check_errors(self, Workspace, (ATMOST,), ((0, NO_RULES, InvalidRule),))
        check_errors(self, lambda partial: list(Workspace(ATMOST).valid_rows(partial)), (((0, 1),),), ((0, partials, InvalidPartial),))

    def test_groups(self):
        good, refused = ("allow", ()), ("forbid", ())
        forms = JUNK + (("forbid",), ("forbid", (), ()), ["forbid", ()], ("undo", 1), ("Forbid", ()), (None, ()), ("forbid allow", ()),
                        "forbid", (("forbid", ()),), ((), "forbid"), {"forbid": ()})
        for wrong in forms:
            for edits in ((wrong,), (good, wrong), (refused, wrong), (wrong, refused), (("forbid", None), wrong), (("replace", 1), wrong)):
                space = Workspace(ATMOST)
                self.assertEqual(outcome(space.apply, *edits), REFUSED, edits)
                self.assertEqual((space.rule, space.log), (ATMOST, ()))
        later = ((refused, REFUSED), (("forbid", None), (InvalidPartial, {})), (("allow", ((3, 0),)), (InvalidPartial, {})),
                 (("replace", None), (InvalidRule, {})), (("replace", IMPLY), REFUSED))
        for wrong, expected in later:
            for other, _ in later:
                space = Workspace(ATMOST)
                self.assertEqual(outcome(space.apply, good, wrong, other, good), expected)
                self.assertEqual((space.rule, space.log), (ATMOST, ()))

    def test_many(self):
        space = Workspace(ATMOST)
        space.apply(("replace", ONE))
        for many in (2, 3, 10 ** 39):
            self.assertEqual(outcome(space.undo, many=many), (NothingToUndo, {"many": many}))
            self.assertEqual(outcome(space.redo, many=many), (NothingToUndo, {"many": many}))
        for many in NO_MANY:
            self.assertEqual(outcome(space.undo, many=many), (InvalidNumber, {"value": many}))
            self.assertEqual(outcome(space.redo, many=many), (InvalidNumber, {"value": many}))
        self.assertEqual(outcome(space.redo), (NothingToUndo, {"many": 1}))
        self.assertEqual((space.rule, len(space.log)), (ONE, 1))

    def test_names_and_policies(self):
        names = tuple(value for value in JUNK if value not in ("row",)) + ("", "least", "A", "abcdefghi")
        policies = tuple(value for value in JUNK if not isinstance(value, Policy)) + (Copy(2, 2, 0), Copy(2, 4, 0), Policy)

        def watch(name, policy):
            return Workspace(ATMOST, least=LEAST).watch(name, policy)
        check_errors(self, watch, ("x", MAJORITY), ((0, names, InvalidEdit), (1, policies, InvalidPolicy)))
        space = Workspace(ATMOST, least=LEAST)
        for name in JUNK + ("leas", "leastt", "", ["least"], ("least",)):
            for call in (space.unwatch, space.standing, lambda name: space.is_standing(name, None)):
                found = outcome(call, name)
                self.assertIs(found[0], UnknownName)
                self.assertIs(found[1]["name"], name)
        self.assertEqual(list(space.policies), ["least"])


class TooMany(unittest.TestCase):
    TABLE = Table.of(Sides(3, (0,) * 6))

    def rules(self):
        """Rules with 27 and with 28 rows, and the row that only the second one has."""
        great = rule_with_rows(6, 28, 172)
        for row in great[1]:
            small = (6, tuple(other for other in great[1] if other != row))
            if all({other[key] for other in small[1]} == {0, 1} for key in range(6)):
                return small, great, tuple(enumerate(row))
        return None

    def test_every_change(self):
        small, great, partial = self.rules()
        space = Workspace(small, it=self.TABLE)
        self.assertIn(space.standing("it")[0], ("keeps", "breaks"))
        before = told(space)
        for edits in ((("allow", partial),), (("replace", great),), (("forbid", partial), ("allow", partial))):
            self.assertEqual(outcome(space.apply, *edits), LARGE)
            if len(edits) == 1:
                self.assertEqual(outcome(getattr(space, edits[0][0]), edits[0][1]), LARGE)
            self.assertEqual(told(space), before)
        self.assertEqual(space.apply(("allow", partial), ("forbid", partial)), ())
        self.assertEqual(outcome(space.apply, ("allow", partial), ("forbid", ())), REFUSED)
        self.assertEqual(outcome(space.apply, ("allow", partial), ("forbid", None)), (InvalidPartial, {}))
        self.assertEqual(outcome(space.apply, ("allow", partial), None), REFUSED)

    def test_undoing_and_watching(self):
        small, great, partial = self.rules()
        space = Workspace(great)
        self.assertEqual(outcome(space.watch, "it", self.TABLE), LARGE)
        self.assertEqual((space.policies, outcome(space.watch, "IT", self.TABLE)), ({}, REFUSED))
        space.forbid(partial)
        space.forbid(partial)
        space.watch("it", self.TABLE)
        before = told(space)
        self.assertEqual(outcome(space.undo, many=2), LARGE)
        self.assertEqual(outcome(space.undo, many=3), (NothingToUndo, {"many": 3}))
        self.assertEqual(told(space), before)
        self.assertEqual((space.undo(), outcome(space.undo)), ((), LARGE))
        space.unwatch("it")
        self.assertEqual((space.undo(), space.redo(many=2), space.undo(many=2)), ((), (), ()))
        space.watch("sides", Sides(3, (0,) * 6))
        space.watch("copy", Table.of(Copy(3, 6, 1)))
        self.assertEqual(space.rule, great)
        self.assertEqual(len(space.redo()), int(Sides(3, (0,) * 6).keeps(small) != Sides(3, (0,) * 6).keeps(great)))

    def test_redo(self):
        small, great, partial = self.rules()
        space = Workspace(small)
        space.allow(partial)
        space.allow(partial)
        space.undo(many=2)
        space.watch("it", self.TABLE)
        before = told(space)
        for many in (1, 2):
            self.assertEqual(outcome(space.redo, many=many), LARGE)
        self.assertEqual(told(space), before)
        space.unwatch("it")
        self.assertEqual((space.redo(many=2), space.rule), ((), great))


if __name__ == "__main__":
    unittest.main()
