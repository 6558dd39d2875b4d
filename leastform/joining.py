"""The least forms: that of a value, that in which two forms stand, that of a row of samples."""

from leastform.forms import KINDS, MOST_FIELDS, forms_within, part_for
from leastform.runs import run_joined
from leastform.values import kind_of
from leastform.words import words_joined, words_of


def list_part(value):
    return ("lists", len(value), len(value), told(value))


def dict_part(value):
    size = len(value)
    names = sorted(value)
    if size <= MOST_FIELDS:
        return ("record", size, size, tuple([(name, True, form_of(value[name])) for name in names]))
    # With that many names their words are a make.
    return ("table", size, size, words_of(names), told([value[name] for name in names]))


def part_of(value):
    kind = kind_of(value)
    if kind == "truth":
        return ("truths", (value,))
    if kind == "number":
        return ("numbers", value, value, 0)
    if kind == "text":
        return ("texts", words_of([value]))
    if kind == "list":
        return list_part(value)
    if kind == "dict":
        return dict_part(value)
    return ("nothing",)


def form_of(value):
    return (part_of(value),)


def fields_by_name(record):
    return dict([(field[0], field) for field in record[3]])


def field_joined(one, other):
    return (one[0], one[1] and other[1], joined(one[2], other[2]))


def records_joined(one, other, names):
    first = fields_by_name(one)
    second = fields_by_name(other)
    fields = []
    for name in names:
        # A name that a record hasn't adds nothing to the form, and need not be there.
        lacking = (name, False, ())
        fields.append(field_joined(first.get(name, lacking), second.get(name, lacking)))
    return ("record", min(one[1], other[1]), max(one[2], other[2]), tuple(fields))


# The words of the names, in a list: none of a record without fields.
def name_words(part):
    if part[0] == "table":
        return [part[3]]
    names = [field[0] for field in part[3]]
    return [words_of(names)] if len(names) > 0 else []


def tables_joined(one, other):
    words = name_words(one) + name_words(other)
    # Not both are without names, and of one alone that has any, it is a table's make.
    make = words[0] if len(words) == 1 else words_joined(words[0], words[1])
    form = all_joined(forms_within(one) + forms_within(other))
    return ("table", min(one[1], other[1]), max(one[2], other[2]), make, form)


def dicts_joined(one, other):
    if one[0] == "record" and other[0] == "record":
        names = sorted(set(fields_by_name(one)) | set(fields_by_name(other)))
        if len(names) <= MOST_FIELDS:
            return records_joined(one, other, names)
    return tables_joined(one, other)


def lists_joined(one, other):
    return ("lists", min(one[1], other[1]), max(one[2], other[2]), joined(one[3], other[3]))


# Both parts are for one kind.
def parts_joined(one, other):
    if one[0] == "nothing":
        return one
    if one[0] == "truths":
        return ("truths", tuple(sorted(set(one[1]) | set(other[1]))))
    if one[0] == "numbers":
        return ("numbers",) + run_joined(one[1:], other[1:])
    if one[0] == "texts":
        return ("texts", words_joined(one[1], other[1]))
    if one[0] == "lists":
        return lists_joined(one, other)
    return dicts_joined(one, other)


def joined(one, other):
    parts = []
    for kind in KINDS:
        both = [part for part in [part_for(one, kind), part_for(other, kind)] if part is not None]
        if len(both) == 1:
            parts.append(both[0])
        if len(both) == 2:
            parts.append(parts_joined(both[0], both[1]))
    return tuple(parts)


def all_joined(forms):
    whole = ()
    for form in forms:
        whole = joined(whole, form)
    return whole


def told(samples):
    return all_joined([form_of(sample) for sample in samples])
