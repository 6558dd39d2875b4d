"""Forms met: the form that lets by just what both let by."""

from leastform.forms import KINDS, part_for
from leastform.runs import run_met
from leastform.words import words_let, words_many, words_met


def truths_met(one, other):
    truths = tuple([truth for truth in one[1] if truth in other[1]])
    return None if truths == () else ("truths", truths)


def numbers_met(one, other):
    run = run_met(one[1:], other[1:])
    return None if run is None else ("numbers",) + run


def texts_met(one, other):
    words = words_met(one[1], other[1])
    return None if words is None else ("texts", words)


def lists_met(one, other):
    form = met(one[3], other[3])
    least = max(one[1], other[1])
    # With nothing for an item to be, the list without items is left; so it is where one of the two has no others.
    most = 0 if form == () else min(one[2], other[2])
    return None if least > most else ("lists", least, most, form)


# What a record or table says of a name; the form () where it lets no such name by.
def field_at(part, name):
    if part[0] == "table":
        return (name, False, part[4] if words_let(part[3], name) else ())
    for field in part[3]:
        if field[0] == name:
            return field
    return (name, False, ())


# The record of dicts that have from least to most of the fields, and those that must be there; None where there is no
# such dict. Names that can't be there at all then are left out, and those that are always there must be.
def record_of(least, most, fields):
    musts = [field for field in fields if field[1]]
    fewest = max(least, len(musts))
    greatest = min(most, len(fields))
    if fewest > greatest:
        return None
    if greatest == len(musts):
        return ("record", fewest, greatest, tuple(musts))
    if fewest == len(fields):
        return ("record", fewest, greatest, tuple([(field[0], True, field[2]) for field in fields]))
    return ("record", fewest, greatest, tuple(fields))


# The dicts that both let by, where these have no other names than the ones told.
def named_met(one, other, names):
    fields = []
    for name in names:
        first = field_at(one, name)
        second = field_at(other, name)
        form = met(first[2], second[2])
        must = first[1] or second[1]
        if form == () and must:
            return None
        if form != ():
            fields.append((name, must, form))
    return record_of(max(one[1], other[1]), min(one[2], other[2]), fields)


def tables_met(one, other):
    make = words_met(one[3], other[3])
    form = met(one[4], other[4])
    if make is None or form == ():
        return named_met(one, other, [])
    if make[0] == "few":
        return named_met(one, other, list(make[1]))
    least = max(one[1], other[1])
    most = words_many(make, min(one[2], other[2]))
    return None if least > most else ("table", least, most, make, form)


def dicts_met(one, other):
    if one[0] == "table" and other[0] == "table":
        return tables_met(one, other)
    fields = (one[3] if one[0] == "record" else ()) + (other[3] if other[0] == "record" else ())
    return named_met(one, other, sorted(set([field[0] for field in fields])))


# Both parts are for one kind; None where they have no value in common.
def parts_met(one, other):
    if one[0] == "nothing":
        return one
    if one[0] == "truths":
        return truths_met(one, other)
    if one[0] == "numbers":
        return numbers_met(one, other)
    if one[0] == "texts":
        return texts_met(one, other)
    if one[0] == "lists":
        return lists_met(one, other)
    return dicts_met(one, other)


def met(one, other):
    parts = []
    for kind in KINDS:
        both = [part for part in [part_for(one, kind), part_for(other, kind)] if part is not None]
        found = parts_met(both[0], both[1]) if len(both) == 2 else None
        if found is not None:
            parts.append(found)
    return tuple(parts)


def are_apart(one, other):
    return met(one, other) == ()
