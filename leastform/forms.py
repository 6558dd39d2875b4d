"""Forms: tuples of parts, at most one for each kind of values."""

from leastform.runs import is_run
from leastform.values import is_text, is_whole
from leastform.words import is_words, rises, words_many

MOST_FIELDS = 8

KINDS = ("nothing", "truth", "number", "text", "list", "dict")

# By its first word, the kind that a part is for.
PART_KINDS = {
    "nothing": "nothing",
    "truths": "truth",
    "numbers": "number",
    "texts": "text",
    "lists": "list",
    "record": "dict",
    "table": "dict",
}


def part_kind(part):
    return PART_KINDS[part[0]]


def part_for(form, kind):
    for part in form:
        if part_kind(part) == kind:
            return part
    return None


def forms_within(part):
    if part[0] == "lists":
        return [part[3]]
    if part[0] == "record":
        return [field[2] for field in part[3]]
    if part[0] == "table":
        return [part[4]]
    return []


def part_parts(part):
    return 1 + sum([form_parts(form) for form in forms_within(part)])


def form_parts(form):
    return sum([part_parts(part) for part in form])


def part_deep(part):
    return 1 + max([form_deep(form) for form in forms_within(part)], default=0)


def form_deep(form):
    return max([part_deep(part) for part in form], default=0)


def are_truths(thing):
    if not isinstance(thing, tuple) or len(thing) == 0:
        return False
    # Not by == with the three that there are: to Python (0,) and (False,) are equal.
    return all([isinstance(truth, bool) for truth in thing]) and rises(thing)


def are_bounds(least, most):
    return is_whole(least) and is_whole(most) and 0 <= least <= most


def lets_some_by(thing):
    return is_form(thing) and thing != ()


def is_lists(thing):
    if len(thing) != 4 or not are_bounds(thing[1], thing[2]):
        return False
    return thing[3] == () if thing[2] == 0 else lets_some_by(thing[3])


def is_field(thing):
    if not isinstance(thing, tuple) or len(thing) != 3:
        return False
    return is_text(thing[0]) and isinstance(thing[1], bool) and lets_some_by(thing[2])


def are_fields(thing):
    if not isinstance(thing, tuple) or len(thing) > MOST_FIELDS:
        return False
    return all([is_field(field) for field in thing]) and rises([field[0] for field in thing])


def is_record(thing):
    if len(thing) != 4 or not are_bounds(thing[1], thing[2]) or not are_fields(thing[3]):
        return False
    least = thing[1]
    most = thing[2]
    names = len(thing[3])
    musts = len([field for field in thing[3] if field[1]])
    # With least at all names each of them would have to be there, with most at the musts no other could.
    if musts < names and (least == names or most == musts):
        return False
    return musts <= least and most <= names


def is_table(thing):
    if len(thing) != 5 or not are_bounds(thing[1], thing[2]) or not is_words(thing[3]):
        return False
    most = thing[2]
    make = thing[3]
    if most == 0 or make[0] != "make" or words_many(make, most) < most:
        return False
    return lets_some_by(thing[4])


def is_part(thing):
    if not isinstance(thing, tuple) or len(thing) == 0:
        return False
    if thing[0] == "nothing":
        return len(thing) == 1
    if thing[0] == "truths":
        return len(thing) == 2 and are_truths(thing[1])
    if thing[0] == "numbers":
        return is_run(thing[1:])
    if thing[0] == "texts":
        return len(thing) == 2 and is_words(thing[1])
    if thing[0] == "lists":
        return is_lists(thing)
    if thing[0] == "record":
        return is_record(thing)
    return thing[0] == "table" and is_table(thing)


def is_form(thing):
    if not isinstance(thing, tuple) or not all([is_part(part) for part in thing]):
        return False
    return rises([KINDS.index(part_kind(part)) for part in thing])
