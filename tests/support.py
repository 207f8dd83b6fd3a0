"""What several tests need: rules of the document, wrong values, and a runner for examples."""

import copy
import random
from itertools import product

from keywise.choices.choices import Choice
from keywise.lattice.lattice import Sides
from keywise.levels.thresholds import Thresholds
from keywise.parity.parity import Parity
from keywise.policies.policies import Copy, Table
from keywise.rules.formulas import Formula
from keywise.rules.rules import all_rows

IMPLY = (2, ((0, 0), (0, 1), (1, 1)))
ONE = (3, ((0, 0, 1), (0, 1, 0), (1, 0, 0)))
EVEN = (3, ((0, 0, 0), (0, 1, 1), (1, 0, 1), (1, 1, 0)))
ATMOST = (3, ((0, 0, 0), (0, 0, 1), (0, 1, 0), (1, 0, 0)))


def nested(depth, kind):
    value = kind(())
    for _ in range(depth):
        value = kind((value,))
    return value


# None of these is a row, a rule, a size or a key; only () is a partial row.
JUNK = (
    None, True, False, -1, 8, 61, 10 ** 40 - 1, -(10 ** 40 - 1), "", "0", "x0", "row", "not a formula", "\u0663",
    (), [], {}, (None,), (True,), (2,), ("0",), [0], [0, 1], [(0, 1)], {0: 1}, {(0, 1): 0}, ((),), ((0,),),
    ((0, 1, 0),), ([0, 1],), (0, (1,)), ((0, 1), None), ((7, 0),), (3, ()), [3, ()], (3, "rows"),
    nested(19, tuple), nested(19, list), Formula.key(0), (Formula.key(1),), [Formula.key(2)],
    Copy(2, 2, 0), (Sides(2, (0, 1)),), [Thresholds(2, (1, 2))], (Choice(2, ((0, 1),)), 1), {0: Copy(3, 1, 2)},
    all_rows(2), (all_rows(2),),
)
POLICIES = (
    Copy(2, 2, 0), Copy(6, 3, 5), Table(((0, 0, 0, 1), (0, 1, 1, 1))), Choice(3, ((0, 1), (2, 0))), Choice(1, ()),
    Thresholds(3, (1, 2, 3)), Sides(2, (0, 1)), Sides(4, (1, 1, 0)),
)
NO_SIZES = (0, 8, -1, 10 ** 39, True, False, None, "3", "", (3,), [3], {3: 3}, (), IMPLY, Formula.key(3))


def brute_rows(size):
    return list(product((0, 1), repeat=size))


def brute_partials(size):
    found = []
    for bits in product((None, 0, 1), repeat=size):
        found.append(tuple((key, bit) for key, bit in enumerate(bits) if bit is not None))
    return found


def brute_rules(size):
    rows = brute_rows(size)
    found = []
    for taken in product((False, True), repeat=len(rows)):
        valid = tuple(row for row, take in zip(rows, taken) if take)
        if all({row[key] for row in valid} == {0, 1} for key in range(size)):
            found.append((size, valid))
    return found


def mutants(value):
    """Yield values that differ from the value in one part, in any depth."""
    if isinstance(value, tuple):
        yield list(value)
        yield dict.fromkeys(range(len(value)))
        yield value[::-1]
        yield value[:-1]
        yield value[1:]
        yield value + value[-1:]
        yield value[:1] + value
        yield value + (0,)
        yield (value,)
        for at in range(len(value) - 1):
            yield value[:at] + (value[at + 1], value[at]) + value[at + 2:]
            yield value[:at] + (value[at],) + value[at:]
        for at, part in enumerate(value):
            for other in mutants(part):
                yield value[:at] + (other,) + value[at + 1:]
    elif value is None:
        yield from (0, 1, False, "", "None", (), (0, 1), ((0, 1), (1, 0)), [], {})
    elif isinstance(value, str):
        yield from (value + " ", value[:-1], value.upper(), "", None, 0, (value,), [value], {value: value})
    else:
        yield bool(value)
        yield from (value + 1, value - 1, 1 - value, 2, 7, -1, 8, 10 ** 39)
        yield from (None, "", str(value), (value,), [value], {value: value}, Formula.key(1))


def outcome(call, *args, **named):
    """Return what the call returns, or the class and the attributes of the error that it raises."""
    try:
        return call(*args, **named)
    except Exception as error:
        return type(error), vars(error)


def check_errors(case, call, good, bads):
    """Check the errors of a call: `bads` are (place, wrong values, error) in the order of the document.

    Each of them must be raised for each of its values, whatever is wrong behind it, and keep the value if it is
    `InvalidNumber`. No argument may be changed.
    """
    for at, (place, wrongs, kind) in enumerate(bads):
        later = [{}] + [{other: values[0]} for other, values, _ in bads[at + 1:] if other != place]
        together = {}
        for other in later:
            together = {**other, **together}
        for wrong in wrongs:
            for changes in later + [together]:
                args = list(good)
                for other, value in changes.items():
                    args[other] = value
                args[place] = wrong
                before = repr(args)
                found = outcome(call, *args)
                case.assertEqual(found[0] if isinstance(found, tuple) and found else found, kind, (args, found))
                if "value" in found[1]:
                    case.assertIs(found[1]["value"], wrong, args)
                case.assertEqual(repr(args), before)
    case.assertEqual(outcome(call, *good), outcome(call, *copy.deepcopy(good)))


def check_accepted(case, accepts, right, values):
    """Check that a function accepts exactly the values whose texts are among the right ones."""
    for value in values:
        case.assertIs(accepts(value), repr(value) in right, value)


def sample_rules(size, many, seed):
    """Return so many rules of the size, with few and with many rows, always the same ones."""
    chance = random.Random(seed)
    rows = brute_rows(size)
    found = []
    while len(found) < many:
        valid = tuple(sorted(chance.sample(rows, chance.randrange(2, len(rows) + 1))))
        if all({row[key] for row in valid} == {0, 1} for key in range(size)):
            found.append((size, valid))
    return found


def counted_rules(size):
    """Return the rules of the size in which only the number of ones decides whether a row is valid."""
    found = []
    for taken in product((False, True), repeat=size + 1):
        valid = tuple(row for row in brute_rows(size) if taken[sum(row)])
        if all({row[key] for row in valid} == {0, 1} for key in range(size)):
            found.append((size, valid))
    return found


def run_examples(case, text, names):
    """Run examples as the document writes them: `>>> ` lines, results, and `raises` lines."""
    lines = text.strip().split("\n")
    for at, line in enumerate(lines):
        if not line.startswith(">>> "):
            continue
        source = line[4:]
        expected = lines[at + 1] if at + 1 < len(lines) and not lines[at + 1].startswith(">>> ") else None
        with case.subTest(example=source):
            if expected is None:
                exec(source, names)
            elif expected.startswith("raises "):
                with case.assertRaises(names[expected[7:].split("(")[0]]) as caught:
                    eval(source, names)
                told = ", ".join(f"{name}={value!r}" for name, value in vars(caught.exception).items())
                case.assertEqual(expected[7:].partition("(")[2].removesuffix(")") or told, told)
            else:
                case.assertEqual(repr(eval(source, names)), expected)


def random_function(chance, replicas):
    return (0,) + tuple(chance.randrange(2) for _ in range(2 ** replicas - 2)) + (1,)


def policies_of(size, chance, replicas=(2, 3, 4, 5, 6)):
    """Return a policy of each class for this size, and a Table that copies a replica."""
    n = chance.choice(replicas)
    literals = [(key, bit) for key in range(size) for bit in (0, 1)]
    return [
        Table(tuple(random_function(chance, n) for _ in range(size))),
        Copy(n, size, chance.randrange(n)),
        Table.of(Copy(n, size, chance.randrange(n))),
        Choice(size, tuple(sorted(chance.sample(literals, chance.randrange(len(literals) + 1))))),
        Thresholds(n, tuple(chance.randrange(1, n + 1) for _ in range(size))),
        Sides(n, tuple(chance.randrange(2) for _ in range(size))),
        Parity(chance.choice((3, 5)), size),
    ]


def rule_with_rows(size, many, seed):
    """Return a rule of the size with exactly so many rows."""
    chance = random.Random(seed)
    while True:
        valid = tuple(sorted(chance.sample(brute_rows(size), many)))
        if all({row[key] for row in valid} == {0, 1} for key in range(size)):
            return (size, valid)
