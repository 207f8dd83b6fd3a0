"""Stage 18: a shell."""

import random
import unittest
from fractions import Fraction

from keywise.decide.decide import is_decision
from keywise.errors import Broken, InvalidCommand, InvalidEdit, InvalidMessage, InvalidNumber, InvalidOperation, InvalidPolicy
from keywise.errors import InvalidRow, InvalidRule, NothingToUndo, ParseError, Refused, TooLarge, UnknownName
from keywise.lattice.lattice import Sides
from keywise.levels.levels import tension
from keywise.policies.policies import Copy, Table
from keywise.store.forecasts import outlook
from keywise.store.store import Store
from keywise.text.formats import format_walk, pattern_table
from keywise.text.shell import Shell
from keywise.workspace.workspace import Workspace
from tests.support import ATMOST, EVEN, IMPLY, JUNK, ONE
from tests.support import brute_partials, brute_rows, brute_rules, check_errors, outcome, policies_of, rule_with_rows
from tests.test_formats import NO_TEXTS
from tests.test_rules import FREE_1, FREE_7, NO_RULES

WORDS = {
    "rule": "ROWS", "forbid": "PARTIAL", "allow": "PARTIAL", "undo": "N", "redo": "N", "rows": "PARTIAL", "patterns": "", "table": "",
    "tension": "", "decide": "", "watch": "NAME POLICY", "standing": "NAME", "unwatch": "NAME", "open": "ROW POLICY", "close": "",
    "write": "R ROW", "put": "R PARTIAL", "show": "R", "send": "R", "deliver": "N R", "exchange": "LIST", "back": "N", "forth": "N",
    "settled": "LIST", "possible": "LIST", "status": "",
}
STORE_WORDS = ("close", "write", "put", "show", "send", "deliver", "exchange", "back", "forth", "settled", "possible")
PARTS = {"ROWS": "001 010 100", "PARTIAL": "0=1 1=1", "N": "0", "NAME": "it", "POLICY": "sides of 2: min min min", "ROW": "000",
         "R": "1", "LIST": "0 1"}
LONG_PARTS = ("ROWS", "PARTIAL", "POLICY", "LIST")
OPENED = ("open 001 sides of 2: min min min",)
NO_INTEGERS = ("x", "+1", "01", "-0", "1.0", "--1", "1-", "\u0661", "1\n", "\n1", "\t1", "1_0", "9" * 41, "-" + "9" * 41, "none", "0x1", "1,2",
               "9" * 5000)


def texts(rows):
    return " ".join("".join(map(str, row)) for row in rows) or "none"


def partial_text(partial):
    return " ".join(f"{key}={bit}" for key, bit in partial) or "none"


def news_text(news):
    return ", ".join(" ".join(each) for each in news) or "none"


def standing_text(standing):
    if standing[0] == "breaks":
        return "breaks " + texts(standing[1])
    return " ".join(map(str, standing))


def shell_with(*lines, rule=ATMOST):
    shell = Shell(rule)
    list(shell.answers(*lines))
    return shell


class Model:
    """What a shell does, by a workspace and a store of its own."""

    def __init__(self, rule):
        self.space, self.store, self.messages, self.many = Workspace(rule), None, [], 0

    def run(self, word, *values):
        answer = getattr(self, "do_" + word)(*values)
        self.many += 1
        return answer

    def do_rule(self, rule):
        return news_text(self.space.replace(rule))

    def do_forbid(self, partial):
        return news_text(self.space.forbid(partial))

    def do_allow(self, partial):
        return news_text(self.space.allow(partial))

    def do_undo(self, many):
        return news_text(self.space.undo(many=many))

    def do_redo(self, many):
        return news_text(self.space.redo(many=many))

    def do_rows(self, partial):
        return texts(self.space.valid_rows(partial))

    def do_patterns(self):
        return "; ".join(map(partial_text, self.space.patterns)) or "none"

    def do_table(self):
        return pattern_table(self.space.rule)

    def do_tension(self):
        return str(Fraction(*tension(self.space.rule)))

    def do_decide(self):
        found = self.space.decision()
        if found[0] == "policy":
            return "policy " + str(found[1])
        return f"obstruction {format_walk(self.space.rule, found[1])}; {texts(found[2])}"

    def do_watch(self, name, policy):
        return standing_text(self.space.watch(name, policy))

    def do_standing(self, name):
        return standing_text(self.space.standing(name))

    def do_unwatch(self, name):
        return str(self.space.unwatch(name))

    def do_open(self, row, policy):
        self.store, self.messages = Store(self.space.rule, policy, row), []
        return "ok"

    def do_close(self):
        self.store, self.messages = None, []
        return "ok"

    def do_write(self, replica, row):
        self.store.write(replica, row)
        return texts([self.store.shown(replica)])

    def do_put(self, replica, partial):
        self.store.put(replica, *partial)
        return texts([self.store.shown(replica)])

    def do_show(self, replica):
        return texts([self.store.shown(replica)])

    def do_send(self, replica):
        self.messages.append(self.store.outgoing(replica))
        return str(len(self.messages) - 1)

    def do_deliver(self, number, replica):
        if not 0 <= number < len(self.messages):
            raise InvalidNumber(number)
        return " ".join(map(str, self.store.deliver(replica, self.messages[number]))) or "none"

    def do_exchange(self, *replicas):
        return texts([self.store.exchange(*replicas)])

    def do_back(self, many):
        return str(self.store.undo(many=many))

    def do_forth(self, many):
        return str(self.store.redo(many=many))

    def do_settled(self, *replicas):
        return partial_text(tuple(outlook(self.store, *replicas)[0].items()))

    def do_possible(self, *replicas):
        return texts(outlook(self.store, *replicas)[1])

    def do_status(self):
        return f"{self.space}; {'no store' if self.store is None else self.store}"


def random_command(chance, model, rules):
    """A line, and the word and the values that it means."""
    rule = model.space.rule if model.store is None else model.store.rule
    size = rule[0]
    policies = policies_of(size, chance, (2, 2, 3))[:6]
    replicas = 2 if model.store is None else model.store.policy.replicas
    word = chance.choice([each for each in WORDS if model.store is not None or each not in STORE_WORDS])
    if model.store is None and chance.random() < 0.3:
        word = "open"
    if word in ("close", "open") and model.store is not None and chance.random() < 0.7:
        word = chance.choice(("write", "send", "deliver", "deliver"))
    values, parts = [], []
    for at, kind in enumerate(WORDS[word].split()):
        if kind == "ROWS":
            values.append(chance.choice(rules))
            parts.append(texts(values[-1][1]))
        elif kind == "PARTIAL":
            values.append(chance.choice(brute_partials(size)))
            parts.append(partial_text(values[-1]))
        elif kind == "ROW":
            values.append(chance.choice(model.space.rule[1] if word == "open" else brute_rows(size)))
            parts.append(texts([values[-1]]))
        elif kind == "POLICY":
            values.append(chance.choice(policies + [Sides(2, (0,) * size), Copy(3, size, 1)]))
            parts.append(str(values[-1]))
        elif kind == "NAME":
            values.append(chance.choice(("a", "b", "long", "eightabc")))
            parts.append(values[-1])
        elif kind == "LIST":
            many = [chance.randrange(replicas + (chance.random() < 0.1)) for _ in range(chance.randrange(1, 4))]
            values += many
            parts += map(str, many)
        else:
            fitting = list(range(len(model.messages) if (word, at) == ("deliver", 0) else replicas))
            values.append(chance.choice(fitting * 5 + [0, 1, 2, 3, -1]))
            parts.append(str(values[-1]))
    return " ".join([word] + parts), word, values


class Commands(unittest.TestCase):
    def test_against_a_workspace_and_a_store(self):
        answered = {word: 0 for word in WORDS}
        refused = 0
        for seed in range(60):
            chance = random.Random(seed)
            size = chance.choice((1, 2, 3, 3))
            rules = brute_rules(size)
            first = chance.choice(rules)
            shell, model = Shell(first), Model(first)
            for _ in range(40):
                line, word, values = random_command(chance, model, rules)
                expected = outcome(model.run, word, *values)
                found = outcome(shell.run, line)
                self.assertEqual(found, expected, line)
                self.assertTrue(type(found) is str or found == expected)
                answered[word] += type(found) is str
                refused += type(found) is not str
                self.assertEqual((len(shell), str(shell)), (model.many, f"shell with {model.many} answers"))
                self.assertTrue(shell.workspace() == model.space)
                self.assertTrue(shell.store() == model.store)
                if model.store is not None:
                    self.assertEqual(shell.store().log, model.store.log)
        self.assertGreater(min(answered.values()), 5, answered)
        self.assertGreater(refused, 200)

    def test_nothing_at_all(self):
        shell = Shell(FREE_1)
        self.assertEqual([shell.run(line) for line in ("patterns", "undo 0", "redo 0")], ["none"] * 3)
        shell = Shell(IMPLY)
        for line, answer in (("rows 0=1 1=0", "none"), ("rows none", "00 01 11"), ("rule 00 01 11", "none"), ("allow 0=0", "none"),
                             ("patterns", "0=1 1=0"), ("tension", "0"), ("table", "  0 2  0=1 1=0\ntension 0"),
                             ("open 11 sides of 2: min min", "ok"), ("settled 0", "none"), ("possible 0", "00 01 11"),
                             ("settled 0 0", "none"), ("settled 1 0 1 0", "0=1 1=1"), ("possible 1 1 0", "11"), ("put 1 none", "11"),
                             ("send 1", "0"), ("deliver 0 1", "none"), ("deliver 0 0", "1"), ("back 0", "3"), ("forth 0", "3")):
            self.assertEqual(shell.run(line), answer, line)

    def test_standings(self):
        shell = Shell(ONE)
        self.assertEqual(shell.run("watch mine copy 1 of 3 for 3 keys"), "copies 1")
        self.assertEqual(shell.run("watch least sides of 2: min min min").split(" ")[0], "breaks")
        self.assertEqual(len(shell.run("standing least").split(" ")), 3)
        self.assertEqual(len(shell.run("watch most thresholds of 3: 2 2 2").split(" ")), 4)
        self.assertEqual(shell.run("allow 0=0 1=0 2=0"), "least breaks keeps, most breaks keeps")
        self.assertEqual(shell.run("standing least"), "keeps")
        self.assertEqual(shell.run("undo 1"), "least keeps breaks, most keeps breaks")
        self.assertEqual(shell.run("unwatch most"), "thresholds of 3: 2 2 2")
        self.assertEqual(shell.run("redo 1"), "least breaks keeps")

    def test_decisions(self):
        shell = Shell(ONE)
        found = shell.run("decide")
        self.assertEqual(found.split(" ")[0], "obstruction")
        way, rows = found.removeprefix("obstruction ").split("; ")
        self.assertEqual(sorted(rows.split(" ")), ["001", "010", "100"])
        self.assertEqual(len(set(way.split(" -> "))), 6)
        self.assertEqual(shell.run("rule 000 011 101 110"), "none")
        self.assertEqual(shell.run("decide"), "policy parity of 3 for 3 keys")
        self.assertTrue(is_decision(EVEN, shell.workspace().decision()))

    def test_messages(self):
        shell = shell_with(*OPENED)
        lines = ("send 0", "write 0 000", "send 0", "send 1", "deliver 1 1", "deliver 1 1", "deliver 0 1", "show 1", "back 3", "show 1",
                 "forth 3", "show 1", "back 4", "forth 1")
        answers = ["0", "000", "1", "2", "0", "none", "none", "000", "1", "001", "4", "000", "0", "1"]
        self.assertEqual(list(shell.answers(*lines)), answers)
        self.assertEqual(outcome(shell.run, "deliver 3 0"), (InvalidNumber, {"value": 3}))
        self.assertEqual(outcome(shell.run, "deliver -1 9"), (InvalidNumber, {"value": -1}))
        self.assertEqual(outcome(shell.run, "deliver 2 9"), (InvalidNumber, {"value": 9}))
        self.assertEqual(shell.run("back 1"), "0")
        self.assertEqual(outcome(shell.run, "deliver 1 0"), (InvalidMessage, {}))
        self.assertEqual(outcome(shell.run, "deliver 1 2"), (InvalidNumber, {"value": 2}))
        self.assertEqual(shell.run(OPENED[0]), "ok")
        self.assertEqual(outcome(shell.run, "deliver 0 0"), (InvalidNumber, {"value": 0}))
        self.assertEqual(shell.run("send 1"), "0")
        self.assertEqual([shell.run("close"), shell.run(OPENED[0]), shell.run("send 0")], ["ok", "ok", "0"])

    def test_the_rule_of_the_store_stays(self):
        shell = shell_with(*OPENED)
        shell.run("rule 001 010 100")
        self.assertEqual((shell.store().rule, shell.workspace().rule), (ATMOST, ONE))
        self.assertEqual(shell.run("write 0 000"), "000")
        self.assertEqual(shell.run("status"), "3 keys, 3 rows, 4 patterns; store of 2 replicas, 1 operations")
        self.assertEqual(outcome(shell.run, OPENED[0])[0], Broken)
        self.assertEqual(shell.run("show 0"), "000")
        self.assertEqual(shell.run("close"), "ok")
        self.assertEqual(shell.run("status"), "3 keys, 3 rows, 4 patterns; no store")


class Forms(unittest.TestCase):
    def lines(self):
        return {word: " ".join([word] + [PARTS[kind] for kind in kinds.split()]) for word, kinds in WORDS.items()}

    def check_invalid(self, shell, line):
        before = len(shell)
        self.assertEqual(outcome(shell.run, line), (InvalidCommand, {}), repr(line)[:80])
        self.assertEqual(len(shell), before)

    def test_numbers_of_parts(self):
        for opened in ((), OPENED):
            shell = shell_with("watch it copy 0 of 2 for 3 keys", *opened)
            for word, line in self.lines().items():
                parts = line.split(" ")
                needed = len(WORDS[word].split())
                for many in range(needed):
                    self.check_invalid(shell, " ".join(parts[:many + 1]))
                if not needed or WORDS[word].split()[-1] not in LONG_PARTS:
                    for more in (" 1", " x", " none", " 1 1"):
                        self.check_invalid(shell, line + more)

    def test_blanks(self):
        for opened in ((), OPENED):
            shell = shell_with(*opened)
            for line in self.lines().values():
                for other in (line + " ", " " + line, line + "  ", line.replace(" ", "  "), line.replace(" ", "  ", 1), "\n" + line,
                              "\t" + line, line.replace(" ", "\t"), line.replace(" ", "\u00a0"), line.upper(), line.capitalize()):
                    if other != line:
                        self.check_invalid(shell, other)

    def test_line_ends_belong_to_their_parts(self):
        shell = shell_with(*OPENED)
        for word, line in self.lines().items():
            expected = (ParseError, {}) if WORDS[word] else (InvalidCommand, {})
            for end in ("\n", "\r\n", "\t", "\x0b", "\u2028", ",", ";", "."):
                self.assertEqual(outcome(shell.run, line + end), expected, repr(line + end))

    def test_no_commands(self):
        for opened in ((), OPENED):
            shell = shell_with(*opened)
            for line in NO_TEXTS + ("", " ", "x", "writes 0 000", "writ 0 000", "Write 0 000", "none", "undo\n1", "status\n", "rules 00 11",
                                    "rule\t00 11", "x" * 9000, " " * 9000, "apply", "0", "copies 1", "write0 000", "open", "\n"):
                self.check_invalid(shell, line)

    def test_no_store(self):
        shell = Shell(ATMOST)
        for word, line in self.lines().items():
            if word in STORE_WORDS:
                self.check_invalid(shell, line)
                self.check_invalid(shell, " ".join([word] + ["x"] * len(WORDS[word].split())))
        self.assertEqual(len(shell), 0)
        shell = shell_with(*OPENED, "close")
        for word, line in self.lines().items():
            if word in STORE_WORDS:
                self.check_invalid(shell, line)

    def test_parts_that_are_not_written_as_they_must_be(self):
        wrong = {
            "ROWS": ("100 010 001", "00 1", "none", "x", "00", "001 010 100 100"), "PARTIAL": ("0=2", "1=0 0=0", "3=0", "x", "0=0 none", "0 =1"),
            "N": NO_INTEGERS, "R": NO_INTEGERS, "NAME": ("A", "abcdefghi", "a1", "a\n", "\u00e9", "1", "a" * 900, "it\t"),
            "POLICY": ("x", "sides of 2 min", "sides of 2: mid", "copy 5 of 2 for 3 keys", "table 0000", "sides of 2: min min min\n"),
            "ROW": ("2", "x", "00000000", "none", "0\n", "0" * 9000), "LIST": NO_INTEGERS + ("0 x", "0 1 01", "0 none"),
        }
        shell = shell_with("watch it copy 0 of 2 for 3 keys", *OPENED)
        for word, kinds in WORDS.items():
            kinds = kinds.split()
            for at, kind in enumerate(kinds):
                for text in wrong[kind]:
                    parts = [PARTS[each] for each in kinds]
                    parts[at] = text
                    for later in ([], [other for other in range(at + 1, len(kinds))]):
                        for other in later:
                            parts[other] = wrong[kinds[other]][0]
                        line = " ".join([word] + parts)
                        self.assertEqual(outcome(shell.run, line), (ParseError, {}), repr(line)[:90])
        self.assertEqual(len(shell), 2)

    def test_numbers_of_forty_digits(self):
        shell = shell_with(*OPENED)
        great = 10 ** 40 - 1
        for number in (great, -great, -1):
            kind = NothingToUndo if number > 0 else InvalidNumber
            told = (kind, {"many" if number > 0 else "value": number})
            for word in ("undo", "redo", "back", "forth"):
                self.assertEqual(outcome(shell.run, f"{word} {number}"), told)
            for line in (f"deliver {number} 0", f"show {number}", f"send {number}", f"write {number} 000", f"put {number} none",
                         f"exchange 0 {number}", f"settled {number}", f"possible 0 {number}"):
                self.assertEqual(outcome(shell.run, line), (InvalidNumber, {"value": number}), line)
        self.assertEqual(len(shell), 1)

    def test_errors_of_what_is_called(self):
        shell = shell_with("watch it copy 0 of 2 for 3 keys", *OPENED)
        before = (shell.workspace(), shell.store())
        for line, kind in (
            ("rule 00 11", InvalidEdit), ("forbid none", InvalidEdit), ("forbid 0=0", InvalidEdit), ("undo 1", NothingToUndo),
            ("redo 1", NothingToUndo), ("undo -1", InvalidNumber), ("watch it sides of 2: min min min", InvalidEdit),
            ("watch it sides of 2: min", InvalidEdit), ("watch other sides of 2: min", InvalidPolicy), ("standing other", UnknownName),
            ("unwatch other", UnknownName), ("open 000 sides of 2: min", InvalidPolicy), ("open 00 sides of 2: min min min", InvalidRow),
            ("open 110 sides of 2: min min min", InvalidRow), ("open 000 sides of 2: max max max", Broken), ("write 2 000", InvalidNumber),
            ("write 0 00", InvalidRow), ("write 0 110", Refused), ("put 2 0=1", InvalidNumber), ("put 0 0=1", Refused),
            ("show 2", InvalidNumber), ("send 2", InvalidNumber), ("deliver 0 0", InvalidNumber), ("exchange 0 2", InvalidNumber),
            ("exchange 0 0", InvalidOperation), ("back 1", NothingToUndo), ("forth 1", NothingToUndo), ("back -1", InvalidNumber),
            ("settled 0 2", InvalidNumber), ("possible 2", InvalidNumber),
        ):
            self.assertIs(outcome(shell.run, line)[0], kind, line)
            self.assertEqual(len(shell), 2)
            self.assertTrue(shell.workspace() == before[0] and shell.store() == before[1])
        self.assertEqual(outcome(shell.run, "put 0 0=1 1=1"), (Refused, {"pattern": ((0, 1), (1, 1))}))

    def test_too_large(self):
        great = rule_with_rows(6, 28, 190)
        table = str(Table.of(Sides(3, (0,) * 6)))
        shell = Shell(great)
        told = (TooLarge, {"limit": 20000})
        self.assertEqual(outcome(shell.run, "watch it " + table), told)
        self.assertIn(outcome(shell.run, f"open {texts(great[1][:1])} {table}")[0], (TooLarge, Broken))
        shell.run(f"open {texts(great[1][:1])} copy 1 of 3 for 6 keys")
        for line in ("settled 0", "possible 0"):
            self.assertEqual(outcome(shell.run, line), told)
            self.assertEqual(type(shell.run(line + " 1")), str)


class Objects(unittest.TestCase):
    def test_answers_one_by_one(self):
        shell = Shell(ATMOST)
        lines = shell.answers("forbid 0=0 1=0 2=0", "open 001 copy 0 of 2 for 3 keys", "write 0 000", "write 0 100", "status")
        self.assertEqual((len(shell), shell.workspace().rule), (0, ATMOST))
        self.assertEqual((next(lines), shell.workspace().rule), ("none", ONE))
        self.assertEqual((next(lines), len(shell)), ("ok", 2))
        self.assertEqual(outcome(next, lines), (Refused, {"pattern": ((0, 0), (1, 0), (2, 0))}))
        self.assertEqual((len(shell), list(lines), shell.store().versions), (2, [], (0, 0)))
        self.assertEqual(list(shell.answers()), [])
        first, second = shell.answers("send 0", "send 0"), shell.answers("send 1", "send 1")
        self.assertEqual([next(first), next(second), next(second), next(first)], ["0", "1", "2", "3"])
        broken = shell.answers("undo 0", 5, "undo 0")
        self.assertEqual((next(broken), outcome(next, broken)), ("none", (InvalidCommand, {})))
        self.assertEqual(len(shell), 7)

    def test_copies_are_independent(self):
        shell = shell_with("watch rule copy 0 of 2 for 3 keys", "watch self sides of 2: min min min", *OPENED, "write 0 000", "send 0")
        space, store = shell.workspace(), shell.store()
        self.assertIs(type(space), Workspace)
        self.assertIs(type(store), Store)
        self.assertTrue(space == shell.workspace() and store == shell.store())
        self.assertEqual(sorted(space.policies), ["rule", "self"])
        space.replace(ONE)
        space.unwatch("rule")
        store.apply_all(("write", 1, (1, 0, 0)), ("exchange", (0, 1)))
        self.assertEqual((shell.workspace().rule, sorted(shell.workspace().policies)), (ATMOST, ["rule", "self"]))
        self.assertEqual((shell.store().versions, shell.run("show 1")), ((1, 0), "001"))
        space, store = shell.workspace(), shell.store()
        shell.run("write 1 100")
        shell.run("rule 001 010 100")
        self.assertEqual((store.versions, space.rule), ((1, 0), ATMOST))
        self.assertIsNone(Shell(ATMOST).store())
        shell.run("close")
        self.assertIsNone(shell.store())

    def test_lines_in_a_shell(self):
        shell = Shell(ATMOST)
        for word in WORDS:
            for value in (word, word + " ", word + "  x", word + " \n", word + " 0 0"):
                self.assertIs(value in shell, True)
            for value in (word + "\n", word + "s", word[:-1], " " + word, word.upper(), word + "\t", word + "\u00a0x", (word,), [word], {word: 1}):
                self.assertIs(value in shell, False, repr(value))
        for value in JUNK + (shell, Shell):
            self.assertIs(value in shell, False)

    def test_equal_shells(self):
        lines = ("watch a sides of 2: min min min",) + OPENED + ("write 0 000", "send 0")
        shell = shell_with(*lines)
        self.assertTrue(shell == shell_with(*lines))
        self.assertFalse(shell != shell_with(*lines))
        for others in (lines[:-1], lines + ("undo 0",), lines[1:] + ("undo 0",), lines[:2] + ("write 0 001", "send 0"),
                       lines[:2] + ("write 0 000", "send 1"), lines[:2] + ("send 0", "write 0 000"), ("allow 0=1 1=1 2=0",) + lines[1:],
                       lines[:1] + ("undo 0",) * 3, lines[:3] + ("undo 0",)):
            other = shell_with(*others)
            self.assertFalse(shell == other or other == shell, others)
        self.assertTrue(shell_with(*OPENED, "send 0", "close") == shell_with("undo 0", "undo 0", "undo 0"))
        self.assertTrue(shell_with("undo 0", *OPENED, "send 0", *OPENED) == shell_with("undo 0", "undo 0", "undo 0", *OPENED))
        self.assertTrue(shell_with("rule 001 010 100", "undo 1") == shell_with("patterns", "status"))
        self.assertFalse(shell_with(*OPENED, "send 0", "write 0 000") == shell_with(*OPENED, "send 0", "write 0 001"))
        self.assertFalse(shell_with(*OPENED, "write 0 000", "undo 0") == shell_with(*OPENED, "write 1 000", "undo 0"))
        self.assertFalse(shell_with(*OPENED) == shell_with("undo 0") or shell_with("undo 0") == shell_with(*OPENED))
        self.assertFalse(shell_with(*OPENED) == shell_with("open 001 sides of 3: min min min"))
        self.assertFalse(Shell(ATMOST) == Shell(ONE))
        for value in JUNK + (str(shell), ATMOST, shell.workspace(), shell.store()):
            self.assertIs(shell == value, False)

    def test_making(self):
        check_errors(self, Shell, (ATMOST,), ((0, NO_RULES, InvalidRule),))
        shell = Shell(FREE_7)
        self.assertEqual((len(shell), str(shell), shell.workspace().policies), (0, "shell with 0 answers", {}))
        self.assertEqual(shell.run("status"), "7 keys, 128 rows, 0 patterns; no store")
        self.assertEqual(str(shell), "shell with 1 answers")


if __name__ == "__main__":
    unittest.main()
