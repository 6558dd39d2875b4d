"""What a form lets by, and the first fault of what it doesn't."""

from leastform.forms import part_for
from leastform.runs import run_has
from leastform.values import kind_of, steps_in
from leastform.words import words_let


# forms are those that the things at steps must be let by, one for each step.
def fault_behind(value, steps, forms):
    for place in range(len(steps)):
        step = steps[place]
        found = fault(forms[place], value[step])
        if found is not None:
            return ((step,) + found[0], found[1])
    return None


def list_fault(part, value):
    if len(value) < part[1]:
        return ((), "short")
    if len(value) > part[2]:
        return ((), "long")
    return fault_behind(value, steps_in(value), [part[3]] * len(value))


def many_fault(part, value):
    if len(value) < part[1]:
        return ((), "few")
    if len(value) > part[2]:
        return ((), "many")
    return None


def record_fault(part, value):
    fields = part[3]
    if any([field[1] and field[0] not in value for field in fields]):
        return ((), "lacks")
    forms = dict([(field[0], field[2]) for field in fields])
    names = steps_in(value)
    for name in names:
        if name not in forms:
            return ((name,), "strange")
    found = many_fault(part, value)
    if found is not None:
        return found
    return fault_behind(value, names, [forms[name] for name in names])


def table_fault(part, value):
    names = steps_in(value)
    for name in names:
        if not words_let(part[3], name):
            return ((name,), "strange")
    found = many_fault(part, value)
    if found is not None:
        return found
    return fault_behind(value, names, [part[4]] * len(names))


def leaf_lets(part, value):
    if part[0] == "truths":
        return value in part[1]
    if part[0] == "numbers":
        return run_has(part[1:], value)
    if part[0] == "texts":
        return words_let(part[1], value)
    return True


def fault(form, value):
    kind = kind_of(value)
    part = part_for(form, kind)
    if part is None:
        return ((), "kind")
    if part[0] == "lists":
        return list_fault(part, value)
    if part[0] == "record":
        return record_fault(part, value)
    if part[0] == "table":
        return table_fault(part, value)
    return None if leaf_lets(part, value) else ((), kind)


def lets(form, value):
    return fault(form, value) is None
