"""The commands of the shell: their forms, and what each of them does to a workspace or to a store."""

from keywise.errors import InvalidCommand, ParseError
from keywise.levels.levels import tension
from keywise.store.forecasts import outlook
from keywise.text.formats import NONE, format_fraction, format_partial, format_row, format_rows, format_walk
from keywise.text.formats import parse_integer, parse_partial, parse_policy, parse_row, parse_rule, pattern_table
from keywise.workspace.workspace import is_name

# The kinds of the parts behind each word.
FORMS = {
    "rule": ("ROWS",),
    "forbid": ("PARTIAL",),
    "allow": ("PARTIAL",),
    "undo": ("NUMBER",),
    "redo": ("NUMBER",),
    "rows": ("PARTIAL",),
    "patterns": (),
    "table": (),
    "tension": (),
    "decide": (),
    "watch": ("NAME", "POLICY"),
    "standing": ("NAME",),
    "unwatch": ("NAME",),
    "open": ("ROW", "POLICY"),
    "close": (),
    "write": ("NUMBER", "ROW"),
    "put": ("NUMBER", "PARTIAL"),
    "show": ("NUMBER",),
    "send": ("NUMBER",),
    "deliver": ("NUMBER", "NUMBER"),
    "exchange": ("REPLICAS",),
    "back": ("NUMBER",),
    "forth": ("NUMBER",),
    "settled": ("REPLICAS",),
    "possible": ("REPLICAS",),
    "status": (),
}
# Kinds that may have several parts. Only the last kind of a form is one of them.
LONG_KINDS = ("ROWS", "PARTIAL", "POLICY", "REPLICAS")
NEED_A_STORE = (
    "close", "write", "put", "show", "send", "deliver", "exchange", "back", "forth", "settled", "possible",
)


def first_word(line):
    """Return what stands before the first blank of the line."""
    return line.partition(" ")[0]


def parts_of(line):
    """Return the word of a command and the list of the texts behind it, one for each kind of its form."""
    if not isinstance(line, str):
        raise InvalidCommand("not a string")
    word, *parts = line.split(" ")
    if word not in FORMS or "" in parts:
        raise InvalidCommand("no word of a command, or an empty part")
    kinds = FORMS[word]
    if kinds and kinds[-1] in LONG_KINDS:
        last = len(kinds) - 1
        parts = parts[:last] + [" ".join(parts[last:])] if len(parts) > last else []
    if len(parts) != len(kinds):
        raise InvalidCommand("too few or too many parts")
    return word, parts


def parse_name(text):
    """Return the name with this text."""
    if not is_name(text):
        raise ParseError("not a name")
    return text


def parse_replicas(text):
    """Return the tuple of the numbers with this text."""
    return tuple([parse_integer(word) for word in text.split(" ")])


def parse_part(size, kind, text):
    """Return the value of this kind with this text, for partial rows of the size."""
    if kind == "ROW":
        return parse_row(text)
    if kind == "ROWS":
        return parse_rule(text)
    if kind == "PARTIAL":
        return parse_partial(size, text)
    if kind == "POLICY":
        return parse_policy(text)
    if kind == "NAME":
        return parse_name(text)
    return parse_integer(text) if kind == "NUMBER" else parse_replicas(text)


def values_of(size, word, texts):
    """Return the list of the values that the texts behind the word have, for partial rows of the size."""
    return [parse_part(size, kind, text) for kind, text in zip(FORMS[word], texts)]


def listed(texts, between):
    """Return the texts with what stands between them, or the word for nothing at all."""
    return between.join(texts) if texts else NONE


def told_news(news):
    """Return the text of news."""
    return listed([" ".join(each) for each in news], ", ")


def told_standing(standing):
    """Return the text of a standing."""
    word, *shown = standing
    if word == "copies":
        return f"{word} {shown[0]}"
    return f"{word} {format_rows(shown[0])}" if word == "breaks" else word


# Each function below answers a command of the workspace `space` or of the store.


def told_rule(space, rule):
    return told_news(space.replace(rule))


def told_forbid(space, partial):
    return told_news(space.forbid(partial))


def told_allow(space, partial):
    return told_news(space.allow(partial))


def told_undo(space, many):
    return told_news(space.undo(many=many))


def told_redo(space, many):
    return told_news(space.redo(many=many))


def told_rows(space, partial):
    return format_rows(list(space.valid_rows(partial)))


def told_patterns(space):
    return listed([format_partial(space.rule[0], pattern) for pattern in space.patterns], "; ")


def told_table(space):
    return pattern_table(space.rule)


def told_tension(space):
    return format_fraction(tension(space.rule))


def told_decide(space):
    word, *shown = space.decision()
    if word == "policy":
        return f"{word} {str(shown[0])}"
    return f"{word} {format_walk(space.rule, shown[0])}; {format_rows(shown[1])}"


def told_watch(space, name, policy):
    return told_standing(space.watch(name, policy))


def told_standing_of(space, name):
    return told_standing(space.standing(name))


def told_unwatch(space, name):
    return str(space.unwatch(name))


def told_show(store, replica):
    return format_row(store.shown(replica))


def told_write(store, replica, row):
    store.write(replica, row)
    return told_show(store, replica)


def told_put(store, replica, partial):
    store.put(replica, *partial)
    return told_show(store, replica)


def told_exchange(store, replicas):
    return format_row(store.exchange(*replicas))


def told_back(store, many):
    return str(store.undo(many=many))


def told_forth(store, many):
    return str(store.redo(many=many))


def told_settled(store, replicas):
    bits = outlook(store, *replicas)[0]
    return format_partial(store.rule[0], tuple(bits.items()))


def told_possible(store, replicas):
    return format_rows(outlook(store, *replicas)[1])


OF_WORKSPACE = {
    "rule": told_rule, "forbid": told_forbid, "allow": told_allow, "undo": told_undo, "redo": told_redo,
    "rows": told_rows, "patterns": told_patterns, "table": told_table, "tension": told_tension, "decide": told_decide,
    "watch": told_watch, "standing": told_standing_of, "unwatch": told_unwatch,
}
OF_STORE = {
    "write": told_write, "put": told_put, "show": told_show, "exchange": told_exchange, "back": told_back,
    "forth": told_forth, "settled": told_settled, "possible": told_possible,
}
