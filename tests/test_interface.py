"""The interface of the document: each name stands in its module, with these parameters, and each method in its class."""

import importlib
import inspect
import types
import unittest

from keywise.policies.policies import Policy

FUNCTIONS = {
    "rules.rules": """is_row(size, value) is_partial(size, value) is_rule(value) all_rows(size) make_rule(size, *rows)
        rule_where(size, test) is_valid(rule, value) rows_with(rule, partial) forced(rule, partial)""",
    "rules.formulas": "rule_of(size, *formulas) holds_in(rule, formula) failing_row(rule, formula)",
    "patterns.patterns": """patterns(rule) is_pattern(rule, value) pattern_within(rule, partial)
        pattern_rows(rule, pattern) is_pattern_paper(rule, value) rule_of_patterns(size, partials)
        gives(rule, partials)""",
    "choices.arrows": """arrows(rule) arrow_pattern(rule, first, second) reached(rule, *literals) components(rule)
        walk(rule, first, second) is_walk(rule, value) closed_walk(rule)""",
    "choices.choices": """wins_of(policy) is_choice(rule, value) choices(rule) count_choices(rule)
        least_choice(rule, *, wanted=(), unwanted=()) greatest_choice(rule, *, wanted=(), unwanted=())""",
    "levels.thresholds": """thresholds(rule, replicas, *, given=()) count_thresholds(rule, replicas, *, given=())
        heaviest_pattern(rule, policy) merge_into(rule, policy, pattern) number_range(rule, policy, key)""",
    "levels.levels": """is_levels(size, value) falsity_sum(levels, partial) numbers_for(levels, replicas) tension(rule)
        tension_paper(rule) is_tension_paper(rule, value) worst_patterns(rule, levels) least_replicas(rule)
        order_paper(rule) is_order_paper(rule, value) order_levels(order)""",
    "lattice.lattice": """sides_paper(rule) is_sides_paper(rule, value) all_sides(rule) count_sides(rule)
        forced_sides(rule) fold(policy, rows)""",
    "parity.parity": """row_sum(size, *rows) is_equations(size, value) solutions(size, equations)
        reduced(size, equations) follows(size, equations, equation) equations(rule) parity_paper(rule)
        is_parity_paper(rule, value)""",
    "decide.decide": """decision(rule) is_decision(rule, value) judged(rule, policy) is_judgement(rule, policy, value)
        copied_replica(rule, policy)""",
    "envelopes.envelopes": """envelope(rule, *policies) envelope_of(rule, policies) rounds(rule, policies)
        membership(rule, policies, row) is_membership(rule, policies, row, value)
        is_derivation(rule, policies, row, value) thinned(rule, policies)""",
    "operations.operations": """fixed(rule, key, bit) joined(rule, first, second) both(first, second)
        hidden(rule, *keys) turned(rule, *keys) rearranged(rule, keys) beside(first, second)
        turned_policy(policy, *keys) beside_policy(first, second) groups(rule)""",
    "store.forecasts": """shown_rows(rule, policy, known) settled(rule, policy, known)
        open_replicas(rule, policy, known, key) open_pair(rule, policy, known, key, replica)
        completion(rule, policy, known, row) is_completion(rule, policy, known, row, value)
        outlook(store, replica, *sealed)""",
    "text.formats": """format_row(row) parse_row(text) format_rule(rule) parse_rule(text) format_partial(size, partial)
        parse_partial(size, text) format_equations(size, equations) parse_equations(size, text)
        format_fraction(fraction) parse_fraction(text) format_walk(rule, walk) parse_policy(text) pattern_table(rule)""",
}
GENERATORS = ("all_rows", "rows_with", "choices", "thresholds", "all_sides", "solutions", "rounds", "history", "valid_rows", "answers")
CLASSES = {
    "policies.policies": {
        "Policy": """bit(self, key, bits) __call__(self, rows) merged(self, *rows) copied(self) on(self, keys)
            keeps(self, rule) broken_merge(self, rule) __len__(self) __str__(self) size replicas functions
            __getitem__ __eq__""",
        "Table": "__init__(self, functions) of(cls, policy) __str__(self)",
        "Copy": "__init__(self, replicas, size, replica) __str__(self)",
    },
    "choices.choices": {"Choice": "__init__(self, size, literals) wins __str__(self)"},
    "levels.thresholds": {
        "Thresholds": """__init__(self, replicas, numbers) numbers levels __str__(self)
            majority(cls, size, *, replicas=3) load(self, partial) changed(self, key, number)""",
    },
    "lattice.lattice": {"Sides": "__init__(self, replicas, sides) sides __str__(self)"},
    "parity.parity": {"Parity": "__init__(self, replicas, size) __str__(self)"},
    "store.store": {
        "Store": """__init__(self, rule, policy, first) rule policy log versions agreed own(self, replica)
            shown(self, replica) known(self, replica) outgoing(self, replica) is_message(self, value)
            history(self, replica) __len__(self) __str__(self) __contains__ __eq__ write(self, replica, row)
            put(self, replica, *literals) deliver(self, replica, message) exchange(self, *replicas)
            apply_all(self, *operations) undo(self, *, many=1) redo(self, *, many=1)""",
    },
    "workspace.workspace": {
        "Workspace": """__init__(self, rule, **policies) rule patterns policies log computed valid_rows(self, partial=())
            __len__(self) __str__(self) __contains__ __eq__ forbid(self, partial) allow(self, partial)
            replace(self, rule) apply(self, *edits) undo(self, *, many=1) redo(self, *, many=1)
            watch(self, name, policy) unwatch(self, name) standing(self, name) is_standing(self, name, value)
            decision(self)""",
    },
    "text.shell": {
        "Shell": """__init__(self, rule) run(self, line) answers(self, *lines) workspace(self) store(self)
            __len__(self) __str__(self) __contains__ __eq__""",
    },
}
ALONE = ("Policy", "Store", "Workspace", "Shell")


def listed(text):
    """Split at the blanks that are not between brackets."""
    words = []
    for word in text.split():
        if words and words[-1].count("(") > words[-1].count(")"):
            words[-1] += " " + word
        else:
            words.append(word)
    return words


class Interface(unittest.TestCase):
    def module(self, name):
        return importlib.import_module("keywise." + name)

    def test_functions(self):
        for name, text in FUNCTIONS.items():
            for entry in listed(text):
                function = vars(self.module(name))[entry.split("(")[0]]
                self.assertIsInstance(function, types.FunctionType, entry)
                self.assertEqual(function.__module__, "keywise." + name)
                self.assertEqual(function.__name__ + str(inspect.signature(function)), entry)
                self.assertIs(inspect.isgeneratorfunction(function), function.__name__ in GENERATORS, entry)

    def test_classes(self):
        for name, classes in CLASSES.items():
            for class_name, text in classes.items():
                kind = vars(self.module(name))[class_name]
                self.assertEqual((kind.__module__, kind.__name__), ("keywise." + name, class_name))
                self.assertEqual(kind.__bases__, (object,) if class_name in ALONE else (Policy,))
                for entry in listed(text):
                    found = vars(kind)[entry.split("(")[0]]
                    if isinstance(found, classmethod):
                        found = found.__func__
                    if "(" in entry:
                        self.assertEqual(found.__name__ + str(inspect.signature(found)), entry)
                        self.assertIs(inspect.isgeneratorfunction(found), found.__name__ in GENERATORS, entry)
                    elif not entry.startswith("__"):
                        self.assertIsInstance(found, property)
                        self.assertIsNone(found.fset)


if __name__ == "__main__":
    unittest.main()
