"""Counting threshold policies without going through them one by one.

The threshold policies of a size are numbered: the digits of this number, the lowest one first, are the numbers of the
keys less 1, and its base is the number of replicas. A set of policies is a number, too: its bit p says whether the
policy with the number p is in it. So all policies that break one pattern are left out at once.
"""


def united(sets):
    """Return the policies that are in one of the sets."""
    found = 0
    for policies in sets:
        found |= policies
    return found


def sets_by_number(size, replicas):
    """Return the set of all policies, and for each key the list of the sets in which it has 1, 2, .. as its number."""
    many = 1
    for _ in range(size):
        many *= replicas
    everything = (1 << many) - 1
    found = []
    width = 1
    for _ in range(size):
        # A digit stays the same for as many policies as its weight, and comes again after all its values.
        lowest = everything // ((1 << (replicas * width)) - 1) * ((1 << width) - 1)
        found.append([lowest << (width * digit) for digit in range(replicas)])
        width *= replicas
    return everything, found


def light_ones(policies, by_number, pattern, replicas):
    """Return those of the policies for which the load of the pattern is less than the number of replicas."""
    # The policies for which the load of the literals so far is 0, 1, ..
    loads = [policies] + [0] * (replicas - 1)
    for key, bit in pattern:
        by_allowance = by_number[key][::-1] if bit == 1 else by_number[key]
        loads = [
            united([loads[load - more] & by_allowance[more] for more in range(load + 1)]) for load in range(replicas)
        ]
    return united(loads)


def count_light(size, replicas, patterns, given):
    """Return how many policies with the given numbers have a load of each pattern that is less than the replicas."""
    left, by_number = sets_by_number(size, replicas)
    for key, number in given:
        left &= by_number[key][number - 1]
    for pattern in patterns:
        if left == 0:
            return 0
        left = light_ones(left, by_number, pattern, replicas)
    return f"{left:b}".count("1")
