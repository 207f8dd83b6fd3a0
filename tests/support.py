"""What several tests need: rules of the document, wrong values, and a runner for examples."""

from itertools import product

from keywise.rules.formulas import Formula

IMPLY = (2, ((0, 0), (0, 1), (1, 1)))
ONE = (3, ((0, 0, 1), (0, 1, 0), (1, 0, 0)))
EVEN = (3, ((0, 0, 0), (0, 1, 1), (1, 0, 1), (1, 1, 0)))
ATMOST = (3, ((0, 0, 0), (0, 0, 1), (0, 1, 0), (1, 0, 0)))


def nested(depth, kind):
    value = kind(())
    for _ in range(depth):
        value = kind((value,))
    return value


# None of these is a row, a rule, a size or a key; only () is a partial row.
JUNK = (
    None, True, False, -1, 8, 61, 10 ** 40 - 1, -(10 ** 40 - 1), "", "0", "x0", "row", "not a formula", "\u0663",
    (), [], {}, (None,), (True,), (2,), ("0",), [0], [0, 1], [(0, 1)], {0: 1}, {(0, 1): 0}, ((),), ((0,),),
    ((0, 1, 0),), ([0, 1],), (0, (1,)), ((0, 1), None), ((7, 0),), (3, ()), [3, ()], (3, "rows"),
    nested(19, tuple), nested(19, list), Formula.key(0), (Formula.key(1),), [Formula.key(2)],
)
NO_SIZES = (0, 8, -1, 10 ** 39, True, False, None, "3", "", (3,), [3], {3: 3}, (), IMPLY, Formula.key(3))


def brute_rows(size):
    return list(product((0, 1), repeat=size))


def brute_partials(size):
    found = []
    for bits in product((None, 0, 1), repeat=size):
        found.append(tuple((key, bit) for key, bit in enumerate(bits) if bit is not None))
    return found


def brute_rules(size):
    rows = brute_rows(size)
    found = []
    for taken in product((False, True), repeat=len(rows)):
        valid = tuple(row for row, take in zip(rows, taken) if take)
        if all({row[key] for row in valid} == {0, 1} for key in range(size)):
            found.append((size, valid))
    return found


def mutants(value):
    """Yield values that differ from the value in one part, in any depth."""
    if isinstance(value, tuple):
        yield list(value)
        yield dict.fromkeys(range(len(value)))
        yield value[::-1]
        yield value[:-1]
        yield value[1:]
        yield value + value[-1:]
        yield value[:1] + value
        yield value + (0,)
        yield (value,)
        for at in range(len(value) - 1):
            yield value[:at] + (value[at + 1], value[at]) + value[at + 2:]
            yield value[:at] + (value[at],) + value[at:]
        for at, part in enumerate(value):
            for other in mutants(part):
                yield value[:at] + (other,) + value[at + 1:]
    else:
        yield bool(value)
        yield from (value + 1, value - 1, 1 - value, 2, 7, -1, 8, 10 ** 39)
        yield from (None, "", str(value), (value,), [value], {value: value}, Formula.key(1))


def outcome(call, *args, **named):
    """Return what the call returns, or the class and the attributes of the error that it raises."""
    try:
        return call(*args, **named)
    except Exception as error:
        return type(error), vars(error)


def run_examples(case, text, names):
    """Run examples as the document writes them: `>>> ` lines, results, and `raises` lines."""
    lines = text.strip().split("\n")
    for at, line in enumerate(lines):
        if not line.startswith(">>> "):
            continue
        source = line[4:]
        expected = lines[at + 1] if at + 1 < len(lines) and not lines[at + 1].startswith(">>> ") else None
        with case.subTest(example=source):
            if expected is None:
                exec(source, names)
            elif expected.startswith("raises "):
                with case.assertRaises(names[expected[7:].split("(")[0]]):
                    eval(source, names)
            else:
                case.assertEqual(repr(eval(source, names)), expected)
