"""The greatest number that weights of patterns show, by the simplex method with integers.

The unknowns are a weight for each pattern and a cut for each key, all at least 0. The weights have the sum 1 at most.
For each key the weight of (key, 1) is greater than that of (key, 0) by the cut at most. What the weights show is then
the sum of the weights of all literals (key, 1) less all cuts. Each of these conditions has a slack, which is 0 where
the condition holds with equality. The prices of the conditions are levels that show that there is no greater number.
"""


def first_table(size, patterns):
    """Return the table in which all weights and cuts are 0: a line for each condition, and one for the number.

    A line has an entry for each pattern, for each cut, and at the end its value.
    """
    table = []
    for key in range(size):
        line = [1 if (key, 1) in pattern else -1 if (key, 0) in pattern else 0 for pattern in patterns]
        table.append(line + [-1 if other == key else 0 for other in range(size)] + [0])
    table.append([1 for _ in patterns] + [0 for _ in range(size)] + [1])
    ones = [-sum([bit for _, bit in pattern]) for pattern in patterns]
    return table + [ones + [1 for _ in range(size)] + [0]]


def entering(table, free):
    """Return the column of the first unknown that makes the number greater if it grows, or None if none does."""
    growing = [(unknown, column) for column, unknown in enumerate(free) if table[-1][column] < 0]
    # To take the first unknown, here and below, is what keeps the method from going round in a circle.
    return min(growing)[1] if growing else None


def leaving(table, basic, column):
    """Return the line of the unknown that is the first one to become 0 if the unknown of the column grows."""
    best = None
    for line, unknown in enumerate(basic):
        if table[line][column] > 0:
            if best is None or is_before(table, column, (unknown, line), (basic[best], best)):
                best = line
    return best


def is_before(table, column, first, second):
    """Return whether the first unknown becomes 0 before the second one does, or else has the smaller number."""
    left = table[first[1]][-1] * table[second[1]][column]
    right = table[second[1]][-1] * table[first[1]][column]
    return left < right or (left == right and first < second)


def exchanged(table, scale, line, column):
    """Return the table after the exchange of the unknowns of the line and of the column.

    All entries stand for themselves divided by the scale, which becomes the entry at which they meet. The divisions
    leave nothing over, because the entries are minors of the first table.
    """
    meeting = table[line][column]
    found = []
    for at, entries in enumerate(table):
        if at == line:
            changed = list(entries)
            changed[column] = scale
        else:
            here = entries[column]
            changed = [(entry * meeting - here * other) // scale for entry, other in zip(entries, table[line])]
            changed[column] = -here
        found.append(changed)
    return found


def best_weights(size, patterns):
    """Return the greatest number that weights show, a weight for each pattern, and levels that show the same.

    All of them are integers that stand for themselves divided by the last thing that is returned.
    """
    table = first_table(size, patterns)
    many = len(patterns) + size
    free = list(range(many))
    basic = list(range(many, many + size + 1))
    scale = 1
    column = entering(table, free)
    while column is not None:
        line = leaving(table, basic, column)
        meeting = table[line][column]
        table = exchanged(table, scale, line, column)
        scale = meeting
        free[column], basic[line] = basic[line], free[column]
        column = entering(table, free)
    worth = {unknown: table[line][-1] for line, unknown in enumerate(basic)}
    prices = {unknown: table[-1][at] for at, unknown in enumerate(free)}
    weights = [worth.get(at, 0) for at in range(len(patterns))]
    levels = [prices.get(many + key, 0) for key in range(size)]
    return table[-1][-1], weights, levels, scale
