"""All merges of many rows at once.

Rows are numbers here: bit k is the bit of key k. A set of rows is a number, too: its bit r says whether the row with
the number r is in it. What a policy does is a tuple of such rows: the results of all keys for each tuple of bits of
the replicas, in ascending order of these tuples.
"""

from keywise.rules.rules import row_number

# For each key, the set of all rows in which it is 0.
ZEROS = (
    0x55555555555555555555555555555555,
    0x33333333333333333333333333333333,
    0x0F0F0F0F0F0F0F0F0F0F0F0F0F0F0F0F,
    0x00FF00FF00FF00FF00FF00FF00FF00FF,
    0x0000FFFF0000FFFF0000FFFF0000FFFF,
    0x00000000FFFFFFFF00000000FFFFFFFF,
    0x0000000000000000FFFFFFFFFFFFFFFF,
)


def results_of(functions):
    """Return what a policy with these functions does."""
    return tuple([row_number(results) for results in zip(*functions)])


def set_of(rows):
    """Return the set of these rows."""
    return sum([1 << row for row in rows])


def members(rows):
    """Return the ascending list of the rows of the set."""
    return [row for row in range(rows.bit_length()) if (rows >> row) & 1]


def left_by(results, row):
    """Return what is left to the other replicas if the first one has this row."""
    half = len(results) >> 1
    return tuple([(low & ~row) | (high & row) for low, high in zip(results[:half], results[half:])])


def left_at(results, place, row):
    """Return what is left to the other replicas if the one at this place has this row."""
    step = len(results) >> (place + 1)
    without = [at for at in range(len(results)) if at & step == 0]
    return tuple([(results[at] & ~row) | (results[at + step] & row) for at in without])


def begun_merges(results, options):
    """Return a dict from what is left to the last replica to rows of the other ones that leave it."""
    left = {results: ()}
    for rows in options[:-1]:
        left = {left_by(now, row): begun + (row,) for now, begun in left.items() for row in rows}
    return left


def image(low, high, size, rows):
    """Return the set of what comes of the rows of a set if bits 0 become those of `low`, and bits 1 those of `high`."""
    for key in range(size):
        to, fro = (low >> key) & 1, (high >> key) & 1
        if to < fro:
            continue
        step = 1 << key
        zeros, ones = rows & ZEROS[key], (rows >> step) & ZEROS[key]
        if to > fro:
            rows = ones | (zeros << step)
        else:
            rows = (zeros | ones) << (step * to)
    return rows


def merges_into(functions, options, wanted):
    """Return a dict from the rows of the wanted set that come of the options to rows that are merged into them.

    The options are, for each replica, a list of the rows that it can have.
    """
    results = results_of(functions)
    # There are fewer ways to go if the replicas with only one row have it from the beginning.
    free = [place for place, rows in enumerate(options) if len(rows) > 1] or [0]
    for place in range(len(options) - 1, -1, -1):
        if place not in free:
            results = left_at(results, place, options[place][0])
    found = {}
    for merged, rows in free_merges(len(functions), results, [options[place] for place in free], wanted).items():
        taken = dict(zip(free, rows))
        found[merged] = tuple([taken.get(place, each[0]) for place, each in enumerate(options)])
    return found


def free_merges(size, results, options, wanted):
    """Return the same for what a policy of the size does."""
    found = {}
    last = set_of(options[-1])
    for (low, high), begun in begun_merges(results, options).items():
        if wanted == 0:
            break
        new = image(low, high, size, last) & wanted
        if new == 0:
            continue
        wanted &= ~new
        for row in options[-1]:
            merged = (low & ~row) | (high & row)
            if (new >> merged) & 1:
                found.setdefault(merged, begun + (row,))
    return found
