"""Forms held against one another: whether one is within another, and a value that parts them where not."""

from leastform.forms import MOST_FIELDS, part_for, part_kind
from leastform.making import dict_filled, list_filled, musts_of, part_smallest, parts_of, smallest, smalls_of
from leastform.runs import run_parted, run_within
from leastform.values import copied
from leastform.words import words_let, words_parted, words_some, words_within


def names_of(record):
    return [field[0] for field in record[3]]


# Names that dicts of the one may have and none of the other: some, where there are any.
def strange_names(one, other):
    if one[0] == "table" and other[0] == "table":
        name = words_parted(one[3], other[3])
        return [] if name is None else [name]
    if other[0] == "table":
        return [name for name in names_of(one) if not words_let(other[3], name)]
    names = words_some(one[3], MOST_FIELDS + 1) if one[0] == "table" else names_of(one)
    return [name for name in names if name not in names_of(other)]


# Names that dicts of the other must have and those of the one need not.
def lacking_names(one, other):
    return [name for name in musts_of(other) if name not in musts_of(one)]


def bounds_within(one, other):
    return other[1] <= one[1] and one[2] <= other[2]


# Of two parts for one kind, by what they say beside the forms within them.
def shell_within(one, other):
    if one[0] == "truths":
        return all([truth in other[1] for truth in one[1]])
    if one[0] == "numbers":
        return run_within(one[1:], other[1:])
    if one[0] == "texts":
        return words_within(one[1], other[1])
    if one[0] == "lists":
        return bounds_within(one, other)
    if one[0] == "nothing":
        return True
    return bounds_within(one, other) and strange_names(one, other) + lacking_names(one, other) == []


# The form that a record or table has for what a name leads to, the name being one that it has.
def form_behind(part, name):
    if part[0] == "table":
        return part[4]
    return [field[2] for field in part[3] if field[0] == name][0]


# Of two parts for one kind, the forms within them that are held against each other: tuples (step, one's, other's).
def forms_held(one, other):
    if one[0] == "lists":
        return [(("items",), one[3], other[3])]
    if one[0] == "table" and other[0] == "table":
        return [(("values",), one[4], other[4])]
    records = [part for part in [one, other] if part[0] == "record"]
    if len(records) == 0:
        return []
    names = [name for name in names_of(records[0]) if name in names_of(records[-1])]
    return [(("field", name), form_behind(one, name), form_behind(other, name)) for name in names]


def part_within(one, other):
    if other is None or not shell_within(one, other):
        return False
    return all([within(held[1], held[2]) for held in forms_held(one, other)])


def within(one, other):
    return all([part_within(part, part_for(other, part_kind(part))) for part in one])


# Of leaves of which the one is not within the other, and neither of which is nothing.
def leaf_partings(one, other):
    if one[0] == "truths":
        return [(1, truth) for truth in one[1] if truth not in other[1]]
    if one[0] == "numbers":
        return [(1, run_parted(one[1:], other[1:]))]
    return [(1, words_parted(one[1], other[1]))]


# How many items or names part the two, as few as may be.
def counts_parted(one, other):
    counts = []
    if one[1] < other[1]:
        counts.append(one[1])
    if one[2] > other[2]:
        counts.append(max(one[1], other[2] + 1))
    return counts


def list_partings(one, other):
    # Where most is 0 there is no form within, and no item is asked for.
    small = smallest(one[3]) if one[2] > 0 else None
    partings = [list_filled([], small, count) for count in counts_parted(one, other)]
    inner = parting(one[3], other[3])
    if inner is not None:
        partings.append(list_filled([inner], small, one[1]))
    return partings


# By name what, standing there, parts the two, as tuples (name, pair).
def names_parted(one, other):
    found = [(name, smallest(form_behind(one, name))) for name in strange_names(one, other)]
    if one[0] == "table" and other[0] == "record":
        # A strange name is always there, and nothing that parts a field from the values is smaller.
        return found
    for held in forms_held(one, other):
        inner = parting(held[1], held[2])
        if inner is not None:
            found.append((held[0][1] if one[0] == "record" else words_some(one[3], 1)[0], inner))
    return found


def dict_partings(one, other):
    counts = counts_parted(one, other)
    smalls = smalls_of(one, max(counts + [one[1]]))
    partings = [dict_filled(one, smalls, {}, None, count) for count in counts]
    for found in names_parted(one, other):
        partings.append(dict_filled(one, smalls, dict([found]), None, one[1]))
    if one[0] == "record":
        for name in lacking_names(one, other):
            partings.append(dict_filled(one, smalls, {}, name, one[1]))
    return partings


def part_partings(one, other):
    if other is None:
        return [part_smallest(one)]
    if part_within(one, other):
        return []
    if one[0] == "lists":
        return list_partings(one, other)
    if one[0] == "record" or one[0] == "table":
        return dict_partings(one, other)
    return leaf_partings(one, other)


# The smallest value that parts the two, as a pair; None where there is none.
def parting(one, other):
    partings = []
    for part in one:
        partings.extend(part_partings(part, part_for(other, part_kind(part))))
    return min(partings, key=parts_of, default=None)


def parted(one, other):
    found = parting(one, other)
    return () if found is None else (copied(found[1]),)
