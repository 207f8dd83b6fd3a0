"""Stage 14: a store."""

import copy
import random
import unittest
from itertools import permutations, product

from keywise.choices.choices import Choice
from keywise.errors import Broken, InvalidMessage, InvalidNumber, InvalidOperation, InvalidPartial, InvalidPolicy
from keywise.errors import InvalidRow, InvalidRule, NothingToUndo, Refused, TooLarge
from keywise.lattice.lattice import Sides
from keywise.levels.thresholds import Thresholds
from keywise.parity.parity import Parity
from keywise.policies.policies import Copy, Policy, Table
from keywise.store.store import Store
from tests import brute
from tests.support import ATMOST, EVEN, IMPLY, JUNK, ONE
from tests.support import brute_rows, check_errors, mutants, outcome, rule_with_rows
from tests.test_policies import NO_NUMBERS
from tests.test_rules import FREE_1, FREE_7, NO_RULES

SETTINGS = (
    (IMPLY, Sides(2, (0, 0)), (1, 1)), (IMPLY, Thresholds(3, (2, 1)), (0, 0)), (ATMOST, Sides(4, (0, 0, 0)), (0, 1, 0)),
    (EVEN, Parity(3, 3), (1, 1, 0)), (EVEN, Parity(5, 3), (0, 0, 0)), (ONE, Copy(3, 3, 1), (0, 0, 1)),
    (IMPLY, Choice(2, ((1, 1),)), (0, 1)), (ATMOST, Table.of(Sides(3, (0, 0, 0))), (0, 0, 0)),
    (FREE_1, Sides(6, (1,)), (0,)), (FREE_7, Table.of(Sides(2, (1, 0) * 3 + (1,))), (0, 1) * 3 + (0,)),
)


class Model:
    """A store as the document tells it: all contributions, and those that each replica knows, as they are."""

    def __init__(self, rule, policy, first):
        self.rule, self.policy = rule, policy
        self.now = ([[(0, first)] for _ in range(policy.replicas)],
                    [[(0, first)] * policy.replicas for _ in range(policy.replicas)])
        self.before, self.log, self.after = [], [], []

    def perform(self, operation):
        self.before.append(copy.deepcopy(self.now))
        self.log.append(operation)
        made, known = self.now
        if operation[0] == "write":
            replica, row = operation[1:]
            made[replica].append((len(made[replica]), row))
            known[replica][replica] = made[replica][-1]
            return len(made[replica]) - 1
        if operation[0] == "deliver":
            replica, message = operation[1:]
            newer = [at for at, (version, _) in enumerate(message) if version > known[replica][at][0]]
            for at in newer:
                known[replica][at] = message[at]
            return tuple(newer)
        every = [max(known[replica][at] for replica in operation[1]) for at in range(self.policy.replicas)]
        for replica in operation[1]:
            known[replica] = list(every)
        return self.shown(operation[1][0])

    def do(self, operation):
        self.after = []
        return self.perform(operation)

    def undo(self, many):
        for _ in range(many):
            self.after.append(self.log.pop())
            self.now = self.before.pop()

    def redo(self, many):
        for _ in range(many):
            self.perform(self.after.pop())

    def shown(self, replica, now=None):
        return brute.merge(self.policy.functions, [row for _, row in (now or self.now)[1][replica]])

    def random_message(self, chance):
        return tuple(chance.choice(made) for made in self.now[0])


def told(store):
    """All that a store tells."""
    replicas = range(store.policy.replicas)
    return repr((
        store.rule, store.policy.functions, store.log, store.versions, store.agreed, len(store), str(store),
        [(store.own(r), store.shown(r), store.known(r), store.outgoing(r), list(store.history(r))) for r in replicas],
        [row in store for row in brute_rows(store.rule[0])],
    ))


def expected_of(model):
    made, known = model.now
    replicas = range(model.policy.replicas)
    moments = model.before + [model.now]
    shown = [model.shown(replica) for replica in replicas]
    return repr((
        model.rule, model.policy.functions, tuple(model.log), tuple(len(each) - 1 for each in made),
        all(each == known[0] for each in known), len(model.log), f"store of {len(made)} replicas, {len(model.log)} operations",
        [(made[r][-1][1], shown[r], tuple(row for _, row in known[r]), tuple(known[r]),
          [model.shown(r, now) for now in moments]) for r in replicas],
        [row in shown for row in brute_rows(model.rule[0])],
    ))


def random_operation(chance, model, messages):
    """An operation that is possible now, with messages that are kept from earlier, or made of any contributions."""
    replicas = list(range(model.policy.replicas))
    word = chance.choice(Store.WORDS)
    if word == "write":
        return (word, chance.choice(replicas), chance.choice(model.rule[1]))
    if word == "exchange":
        return (word, tuple(chance.sample(replicas, chance.randrange(1, len(replicas) + 1))))
    late = [each for each in messages if all(part in made for part, made in zip(each, model.now[0]))]
    message = chance.choice(late) if late and chance.random() < 0.6 else model.random_message(chance)
    return (word, chance.choice(replicas), message)


def call(store, operation):
    """Carry out an operation by the method for it, and return what the method returns."""
    if operation[0] == "exchange":
        return store.exchange(*operation[1])
    if operation[0] == "write":
        return store.write(*operation[1:])
    return store.deliver(*operation[1:])


class Working(unittest.TestCase):
    def test_against_a_plain_model(self):
        for seed, (rule, policy, first) in enumerate(SETTINGS):
            chance = random.Random(seed)
            for _ in range(3):
                store, model, messages = Store(rule, policy, first), Model(rule, policy, first), []
                for _ in range(30):
                    self.step(chance, store, model, messages)
                    self.assertEqual(told(store), expected_of(model))
                    for replica in range(policy.replicas):
                        self.assertIn(store.shown(replica), rule[1])
                        messages.append(store.outgoing(replica))
                        self.assertTrue(store.is_message(messages[-1]))

    def step(self, chance, store, model, messages):
        chosen = chance.random()
        if chosen < 0.15:
            many = chance.randrange(min(4, len(model.log)) + 1)
            model.undo(many)
            self.assertEqual(store.undo(many=many), len(model.log))
        elif chosen < 0.3:
            many = chance.randrange(min(4, len(model.after)) + 1)
            model.redo(many)
            self.assertEqual(store.redo(many=many), len(model.log))
        elif chosen < 0.45:
            trial = copy.deepcopy(model)
            operations = []
            for _ in range(chance.randrange(4)):
                operations.append(random_operation(chance, trial, messages))
                trial.do(operations[-1])
            for operation in operations:
                model.do(operation)
            self.assertEqual(repr(store.apply_all(*operations)), repr(len(model.log)))
        else:
            operation = random_operation(chance, model, messages)
            self.assertEqual(repr(call(store, operation)), repr(model.do(operation)))

    def test_put(self):
        for rule, policy, first in SETTINGS[:8]:
            for literals in product(*[((), ((key, 0),), ((key, 1),)) for key in range(rule[0])]):
                partial = tuple(literal for part in literals for literal in part)
                for order in list(permutations(partial))[:3]:
                    store = Store(rule, policy, first)
                    row = tuple(dict(partial).get(key, bit) for key, bit in enumerate(first))
                    found = outcome(store.put, 1, *order)
                    if row in rule[1]:
                        self.assertEqual(repr(found), "1")
                        self.assertEqual(repr(store.log), repr((("write", 1, row),)))
                        self.assertEqual((store.own(1), store.own(0)), (row, first))
                    else:
                        pattern = min([each for each in brute.patterns(rule) if brute.contains(row, each)],
                                      key=lambda each: (len(each), each))
                        self.assertEqual(found, (Refused, {"pattern": pattern}))
                        self.assertEqual((store.log, store.own(1)), ((), first))
                        self.assertEqual(outcome(store.write, 1, row), (Refused, {"pattern": pattern}))

    def test_put_changes_the_own_row(self):
        store = Store(ATMOST, Sides(2, (0, 0, 0)), (1, 0, 0))
        self.assertEqual(store.write(0, (0, 0, 0)), 1)
        self.assertEqual(store.shown(0), (0, 0, 0))
        self.assertEqual((store.put(1, (0, 0), (2, 1)), store.own(1)), (1, (0, 0, 1)))
        store.exchange(0, 1)
        self.assertEqual((store.shown(1), store.put(1), store.own(1)), ((0, 0, 0), 2, (0, 0, 1)))
        self.assertEqual(store.log[-1], ("write", 1, (0, 0, 1)))

    def test_writing_the_same_row(self):
        store = Store(IMPLY, Sides(2, (0, 0)), (1, 1))
        self.assertEqual([store.write(1, (1, 1)), store.write(1, (1, 1)), store.put(1)], [1, 2, 3])
        self.assertEqual((store.versions, store.agreed), ((0, 3), False))
        self.assertEqual(store.exchange(1, 0), (1, 1))
        self.assertTrue(store.agreed)

    def test_order_and_repeats_of_messages_do_not_matter(self):
        for seed, (rule, policy, first) in enumerate(SETTINGS):
            chance = random.Random(seed)
            store = Store(rule, policy, first)
            messages = []
            for _ in range(6):
                store.write(chance.randrange(policy.replicas), chance.choice(rule[1]))
                messages.append(store.outgoing(chance.randrange(policy.replicas)))
            operations = store.log
            expected = None
            for _ in range(8):
                order = messages + [chance.choice(messages) for _ in range(4)]
                chance.shuffle(order)
                other = Store(rule, policy, first)
                other.apply_all(*operations, *[("deliver", 0, message) for message in order])
                expected = expected or other
                self.assertEqual((other.outgoing(0), other.shown(0)), (expected.outgoing(0), expected.shown(0)))
                self.assertTrue(other == expected)

    def test_contributions_that_were_not_known_together(self):
        store = Store(FREE_1, Sides(3, (1,)), (0,))
        store.write(0, (1,))
        store.write(0, (0,))
        store.write(1, (1,))
        message = ((1, (1,)), (1, (1,)), (0, (0,)))
        self.assertTrue(store.is_message(message))
        self.assertEqual((store.deliver(2, message), store.deliver(0, message)), ((0, 1), (1,)))
        self.assertEqual(store.known(2), ((1,), (1,), (0,)))
        self.assertEqual(store.known(0), ((0,), (1,), (0,)))

    def test_operations_that_change_nothing(self):
        store = Store(IMPLY, Sides(2, (0, 0)), (1, 1))
        self.assertEqual([store.deliver(0, store.outgoing(0)), store.deliver(1, store.outgoing(0))], [(), ()])
        self.assertEqual([store.exchange(1), store.exchange(1, 0)], [(1, 1), (1, 1)])
        self.assertEqual(store.log[2:], (("exchange", (1,)), ("exchange", (1, 0))))
        self.assertEqual(len(store), 4)
        self.assertEqual(list(store.history(0)), [(1, 1)] * 5)


class Messages(unittest.TestCase):
    def test_exactly_the_contributions(self):
        for rule, policy, first in SETTINGS[:7]:
            chance = random.Random(1)
            store, model = Store(rule, policy, first), Model(rule, policy, first)
            for _ in range(3):
                operation = ("write", chance.randrange(policy.replicas), chance.choice(rule[1]))
                call(store, operation)
                model.do(operation)
            parts = [(version, row) for version in range(-1, 5) for row in brute_rows(rule[0])]
            for _ in range(60):
                message = model.random_message(chance)
                self.assertIs(store.is_message(message), True)
                at = chance.randrange(policy.replicas)
                other = message[:at] + (chance.choice(parts),) + message[at + 1:]
                right = other[at] in model.now[0][at]
                self.assertIs(store.is_message(other), right)
                self.assertEqual(outcome(Store.deliver, copy.deepcopy(store), 0, other) == (InvalidMessage, {}), not right)

    def test_one_part_changed(self):
        store = Store(IMPLY, Sides(2, (0, 0)), (1, 1))
        store.write(1, (0, 0))
        right = {repr(((0, (1, 1)), part)) for part in ((0, (1, 1)), (1, (0, 0)))}
        before = told(store)
        for message in (((0, (1, 1)), (1, (0, 0))), ((0, (1, 1)), (0, (1, 1)))):
            for value in list(mutants(message)) + [message] + list(JUNK):
                self.assertIs(store.is_message(value), repr(value) in right, value)
                if repr(value) not in right:
                    self.assertEqual(outcome(store.deliver, 0, value), (InvalidMessage, {}))
        self.assertEqual(told(store), before)

    def test_undone_contributions_are_none(self):
        store = Store(IMPLY, Sides(2, (0, 0)), (1, 1))
        store.write(0, (0, 1))
        message = store.outgoing(0)
        store.deliver(1, message)
        store.undo(many=2)
        self.assertIs(store.is_message(message), False)
        self.assertEqual(outcome(store.deliver, 1, message), (InvalidMessage, {}))
        self.assertEqual(outcome(store.apply_all, ("deliver", 1, message)), (InvalidMessage, {}))
        self.assertEqual(store.redo(), 1)
        self.assertIs(store.is_message(message), True)
        store.undo()
        self.assertEqual(store.write(0, (0, 0)), 1)
        self.assertIs(store.is_message(message), False)
        self.assertEqual(store.apply_all(("write", 1, (0, 1)), ("deliver", 0, ((0, (1, 1)), (1, (0, 1))))), 3)


class Undoing(unittest.TestCase):
    def make(self):
        store = Store(ATMOST, Sides(3, (0, 0, 0)), (0, 0, 1))
        store.write(1, (0, 1, 0))
        store.exchange(0, 1)
        store.deliver(2, store.outgoing(0))
        store.write(1, (0, 0, 0))
        return store

    def test_any_number(self):
        store = self.make()
        before = told(store)
        moments = [before]
        for _ in range(4):
            store.undo()
            moments.append(told(store))
        self.assertEqual(moments[-1], told(Store(ATMOST, Sides(3, (0, 0, 0)), (0, 0, 1))))
        for many in range(5):
            self.assertEqual(store.redo(many=4 - many), 4 - many)
            self.assertEqual(told(store), moments[many])
            self.assertEqual((store.undo(many=0), store.redo(many=0)), (4 - many, 4 - many))
            self.assertEqual(store.undo(many=4 - many), 0)
        self.assertEqual(repr(store.redo(many=4)), "4")
        self.assertEqual(told(store), before)

    def test_too_many(self):
        store = self.make()
        self.assertEqual(outcome(store.undo, many=5), (NothingToUndo, {"many": 5}))
        self.assertEqual(outcome(store.redo), (NothingToUndo, {"many": 1}))
        self.assertEqual(outcome(store.undo, many=10 ** 39), (NothingToUndo, {"many": 10 ** 39}))
        store.undo(many=2)
        self.assertEqual(outcome(store.redo, many=3), (NothingToUndo, {"many": 3}))
        self.assertEqual((len(store), store.redo(many=2)), (2, 4))
        for wrong in (-1, -10 ** 39, True, False, None, "1", (), (1,), [1], {1: 1}, Copy(2, 2, 0)):
            for method in (store.undo, store.redo):
                self.assertEqual(outcome(method, many=wrong), (InvalidNumber, {"value": wrong}))

    def test_new_operations_forget_undone_ones(self):
        for operation in (("write", 0, (0, 0, 0)), ("deliver", 0, ((0, (0, 0, 1)),) * 3), ("exchange", (2, 1))):
            for together in (False, True):
                store = self.make()
                store.undo(many=2)
                store.apply_all(operation) if together else call(store, operation)
                self.assertEqual(outcome(store.redo), (NothingToUndo, {"many": 1}))
                self.assertEqual((store.redo(many=0), store.log[2:]), (3, (operation,)))
        store = self.make()
        store.undo()
        store.put(0)
        self.assertEqual(outcome(store.redo), (NothingToUndo, {"many": 1}))

    def test_refused_ones_do_not(self):
        store = self.make()
        before = told(store)
        store.undo(many=3)
        left = told(store)
        good = ("write", 0, (0, 0, 0))
        for wrong in (
            lambda: store.write(3, (0, 0, 0)), lambda: store.write(0, (0, 0)), lambda: store.write(0, (1, 1, 0)),
            lambda: store.put(0, (0, 0), (0, 0)), lambda: store.put(0, (0, 1), (1, 1)), lambda: store.put(9),
            lambda: store.deliver(0, ()), lambda: store.deliver(-1, store.outgoing(0)), lambda: store.exchange(),
            lambda: store.exchange(0, 0), lambda: store.exchange(0, 4), lambda: store.undo(many=2),
            lambda: store.redo(many=4), lambda: store.apply_all(good, ("write", 0, (1, 1, 0))),
            lambda: store.apply_all(good, good, ("exchange", ())), lambda: store.apply_all(good, ("deliver", 0, ())),
            lambda: store.apply_all(good, ("deliver", 7, ())), lambda: store.apply_all(good, "write"),
            lambda: store.apply_all(good, ("write", 0, (1, 1))), lambda: store.undo(many=None),
        ):
            with self.assertRaises(Exception):
                wrong()
            self.assertEqual(told(store), left)
        self.assertEqual(store.apply_all(), 1)
        self.assertEqual(store.redo(many=3), 4)
        self.assertEqual(told(store), before)

    def test_each_operation_of_apply_all_by_itself(self):
        store = Store(IMPLY, Sides(2, (0, 0)), (1, 1))
        operations = (("write", 0, (0, 1)), ("exchange", (0, 1)), ("write", 1, (0, 0)))
        self.assertEqual((store.apply_all(*operations), store.log), (3, operations))
        self.assertEqual((store.undo(), store.log), (2, operations[:2]))
        self.assertEqual((store.redo(), store.undo(many=3)), (3, 0))


class Telling(unittest.TestCase):
    def test_words(self):
        self.assertEqual(repr(Store.WORDS), "('write', 'deliver', 'exchange')")
        self.assertEqual(Store(*SETTINGS[0]).WORDS, Store.WORDS)

    def test_rows_that_some_replica_shows(self):
        store = Store(IMPLY, Sides(2, (0, 0)), (1, 1))
        store.write(0, (0, 1))
        for value in list(mutants((0, 1))) + list(mutants((1, 1))) + list(JUNK) + brute_rows(2) + [store, "11"]:
            self.assertIs(value in store, repr(value) in ("(0, 1)", "(1, 1)"), value)

    def test_equal_stores(self):
        rule, policy, first = IMPLY, Sides(2, (0, 0)), (1, 1)
        store = Store(rule, policy, first)
        for other in (Store(rule, policy, first), Store(rule, Table.of(policy), first)):
            self.assertTrue(store == other and other == store)
            self.assertFalse(store != other)
        free = (2, tuple(brute_rows(2)))
        for other in (Store(rule, policy, (0, 1)), Store(rule, Sides(2, (0, 1)), first), Store(free, policy, first),
                      Store(rule, Sides(3, (0, 0)), first)):
            self.assertFalse(store == other or other == store)
        for value in JUNK + (str(store), Store, store.log):
            self.assertIs(store == value, False)

    def test_what_replicas_know_is_compared_and_logs_are_not(self):
        first, second, third = (Store(IMPLY, Sides(2, (0, 0)), (1, 1)) for _ in range(3))
        first.write(0, (0, 1))
        self.assertFalse(first == second or second == first)
        second.apply_all(("exchange", (0, 1)), ("write", 0, (0, 1)), ("exchange", (1,)))
        self.assertTrue(first == second)
        third.write(0, (0, 0))
        self.assertFalse(first == third)
        first.exchange(0, 1)
        self.assertFalse(first == second)
        second.deliver(1, first.outgoing(0))
        self.assertTrue(first == second)
        first.undo(many=2)
        self.assertTrue(first == Store(IMPLY, Sides(2, (0, 0)), (1, 1)))
        third.write(0, (1, 1))
        self.assertEqual(third.known(0), ((1, 1), (1, 1)))
        self.assertFalse(first == third)
        third.undo(many=2)
        third.write(0, (1, 1))
        self.assertFalse(first == third)

    def test_first_rows_are_compared(self):
        first, second = Store(FREE_1, Sides(2, (0,)), (0,)), Store(FREE_1, Sides(2, (0,)), (1,))
        for store in (first, second):
            store.apply_all(("write", 0, (0,)), ("write", 1, (0,)), ("exchange", (0, 1)))
        self.assertEqual([first.outgoing(at) for at in (0, 1)], [second.outgoing(at) for at in (0, 1)])
        self.assertFalse(first == second)

    def test_history_stays_as_it_began(self):
        store = Store(IMPLY, Sides(2, (0, 0)), (1, 1))
        store.write(0, (0, 1))
        first, second = store.history(0), store.history(1)
        self.assertEqual([next(first), next(second), next(first)], [(1, 1), (1, 1), (0, 1)])
        store.undo()
        store.apply_all(("write", 1, (0, 0)), ("exchange", (0, 1)))
        self.assertEqual((list(first), list(second)), ([], [(1, 1)]))
        self.assertEqual(list(store.history(0)), [(1, 1), (1, 1), (0, 0)])

    def test_properties_cannot_be_assigned(self):
        store = Store(*SETTINGS[0])
        for name in ("rule", "policy", "log", "versions", "agreed"):
            with self.assertRaises(AttributeError):
                setattr(store, name, ())
        self.assertIs(store.policy, SETTINGS[0][1])

    def test_nothing_gives_access_to_the_state(self):
        store = Store(*SETTINGS[1])
        store.apply_all(("write", 0, (1, 1)), ("exchange", (0, 1)))
        parts = [store.rule, store.log, store.versions, store.known(0), store.outgoing(0), store.own(0), store.shown(0)]
        while parts:
            part = parts.pop()
            self.assertIn(type(part), (tuple, int, str))
            parts += part if type(part) is tuple else []


class Errors(unittest.TestCase):
    NO_REPLICAS = NO_NUMBERS + (2, 6)

    def test_making(self):
        policies = tuple(value for value in JUNK if not isinstance(value, Policy) or value.size != 3) + (
            Sides(2, (0, 0)), Copy(2, 4, 0), Policy, Table(((0, 0, 0, 1),)),
        )
        rows = JUNK + ((0, 1), (1, 1, 1), (0, 0, 0), (0, 0, True), [0, 0, 1], "001", (0, 0, 2), (0, 0, 1, 0))
        check_errors(self, Store, (ONE, Copy(2, 3, 0), (0, 0, 1)), (
            (0, NO_RULES, InvalidRule), (1, policies, InvalidPolicy), (2, rows, InvalidRow),
        ))

    def test_policies_that_break_the_rule(self):
        for rule, policy in ((ONE, Sides(2, (0, 0, 0))), (IMPLY, Sides(3, (1, 0))), (ATMOST, Parity(3, 3)),
                             (ONE, Thresholds.majority(3)), (IMPLY, Choice(2, ((0, 1),))), (ONE, Table.of(Parity(3, 3)))):
            found = outcome(Store, rule, policy, rule[1][0])
            self.assertIs(found[0], Broken)
            self.assertTrue(brute.is_broken_merge(policy, rule, found[1]["rows"]))
            self.assertEqual(outcome(Store, rule, policy, (1,) * rule[0] if rule != IMPLY else (1, 0)), (InvalidRow, {}))

    def test_too_large(self):
        rule = rule_with_rows(6, 28, 140)
        told_large = (TooLarge, {"limit": 20000})
        self.assertEqual(outcome(Store, rule, Table.of(Copy(3, 6, 0)), rule[1][0]), told_large)
        self.assertEqual(outcome(Store, rule, Table.of(Copy(3, 6, 0)), None), (InvalidRow, {}))
        self.assertIn(outcome(Store, rule, Table.of(Sides(3, (0,) * 6)), rule[1][0])[0], (TooLarge, Broken))
        self.assertEqual(len(Store(rule, Copy(3, 6, 0), rule[1][0])), 0)
        rule = rule_with_rows(6, 27, 141)
        self.assertEqual(len(Store(rule, Table.of(Copy(3, 6, 0)), rule[1][0])), 0)

    def test_asking(self):
        store = Store(ATMOST, Sides(2, (0, 0, 0)), (0, 0, 1))
        for method in (store.own, store.shown, store.known, store.outgoing, lambda replica: list(store.history(replica)),
                       lambda replica: next(store.history(replica))):
            check_errors(self, method, (1,), ((0, self.NO_REPLICAS, InvalidNumber),))

    def test_writing(self):
        def write(replica, row):
            return Store(ATMOST, Sides(2, (0, 0, 0)), (0, 0, 1)).write(replica, row)

        def put(replica, *literals):
            return Store(ATMOST, Sides(2, (0, 0, 0)), (0, 0, 1)).put(replica, *literals)
        replicas = (0, self.NO_REPLICAS, InvalidNumber)
        rows = JUNK + ((0, 1), (0, 0, True), [0, 0, 1], "001", (0, 0, 2), (0, 0, 1, 0))
        check_errors(self, write, (1, (0, 0, 0)), (replicas, (1, rows, InvalidRow)))
        literals = JUNK + ((3, 0), (0, 2), (0, True), (True, 0), (0,), (0, 0, 0), (1, 1), (1, 0), [0, 0], ((0, 0),))
        check_errors(self, put, (1, (1, 0), (2, 0)), (replicas, (2, literals, InvalidPartial)))
        store = Store(ATMOST, Sides(2, (0, 0, 0)), (0, 0, 1))
        self.assertEqual(outcome(store.put, 0, (2, 1), (0, 1)), (Refused, {"pattern": ((0, 1), (2, 1))}))
        self.assertEqual(outcome(store.put, 0, (2, 1), (0, 1), (2, 1)), (InvalidPartial, {}))
        self.assertEqual(outcome(store.write, 0, (1, 1, 1)), (Refused, {"pattern": ((0, 1), (1, 1))}))
        self.assertEqual(outcome(store.write, 2, (1, 1, 1)), (InvalidNumber, {"value": 2}))

    def test_refused_although_the_shown_row_would_be_valid(self):
        store = Store(IMPLY, Sides(2, (0, 0)), (0, 0))
        self.assertEqual(outcome(store.write, 0, (1, 0)), (Refused, {"pattern": ((0, 1), (1, 0))}))

    def test_delivering(self):
        def deliver(replica, message):
            store = Store(IMPLY, Sides(2, (0, 0)), (1, 1))
            store.write(0, (0, 1))
            return store.deliver(replica, message)
        good = ((1, (0, 1)), (0, (1, 1)))
        wrong = JUNK + (good[:1], good + good[:1], list(good), (good[1], good[1]), ((1, (0, 1)), (1, (1, 1))), (good[0], None))
        check_errors(self, deliver, (1, good), ((0, self.NO_REPLICAS, InvalidNumber),
                                                (1, tuple(each for each in wrong if each != (good[1], good[1])), InvalidMessage)))

    def test_exchanging(self):
        def exchange(*replicas):
            return Store(FREE_1, Sides(3, (0,)), (1,)).exchange(*replicas)
        wrong = NO_NUMBERS + (3, 6)
        check_errors(self, exchange, (0, 2, 1), tuple((at, wrong, InvalidNumber) for at in range(3)))
        for replicas in ((), (0, 0), (0, 1, 2, 1)):
            self.assertEqual(outcome(exchange, *replicas), (InvalidOperation, {}))
        self.assertEqual(outcome(exchange, 0, 0, 3), (InvalidNumber, {"value": 3}))
        self.assertEqual(outcome(exchange, 4, 0, 3), (InvalidNumber, {"value": 4}))

    def test_apply_all(self):
        good = ("write", 0, (0, 0))
        forms = JUNK + (("write",), ("write", 0), ("write", 0, (0, 0), 1), ["write", 0, (0, 0)], ("put", 0, (0, 0)), ("deliver", 0),
                        ("deliver", 0, (), ()), ("exchange",), ("exchange", 0, 1), ("exchange", [0, 1]), ("exchange", 0),
                        ("Write", 0, (0, 0)), ("undo", 1), (None, 0, 0), (("write",), 0, (0, 0)), ("exchange", {0: 1}), "write")
        refused = ("write", 0, (1, 0))
        for wrong in forms:
            for operations in ((wrong,), (good, wrong), (wrong, good), (refused, wrong), (wrong, refused), (refused, good, wrong)):
                store = Store(IMPLY, Sides(2, (0, 0)), (1, 1))
                self.assertEqual(outcome(store.apply_all, *operations), (InvalidOperation, {}), operations)
                self.assertEqual((store.log, store.versions), ((), (0, 0)))
        told_refused = (Refused, {"pattern": ((0, 1), (1, 0))})
        later = (
            (refused, told_refused), (("write", 2, (0, 0)), (InvalidNumber, {"value": 2})), (("write", 0, (0,)), (InvalidRow, {})),
            (("deliver", 0, None), (InvalidMessage, {})), (("deliver", None, None), (InvalidNumber, {"value": None})),
            (("exchange", (0, 0)), (InvalidOperation, {})), (("exchange", (0, "0")), (InvalidNumber, {"value": "0"})),
            (("exchange", ()), (InvalidOperation, {})), (("write", None, None), (InvalidNumber, {"value": None})),
        )
        for wrong, expected in later:
            for other, _ in later:
                store = Store(IMPLY, Sides(2, (0, 0)), (1, 1))
                self.assertEqual(outcome(store.apply_all, good, good, wrong, other), expected)
                self.assertEqual((store.log, store.versions, store.own(0)), ((), (0, 0), (1, 1)))


if __name__ == "__main__":
    unittest.main()
