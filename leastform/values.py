"""Values: what they are, their kinds, their parts and their paths."""

from leastform.errors import NoPath

# By its number, as the sign itself may stand in no text of the program.
PERCENT = 37


def is_whole(thing):
    return isinstance(thing, int) and not isinstance(thing, bool)


def is_sign(sign):
    return " " <= sign <= "~" and ord(sign) != PERCENT


def is_text(thing):
    return isinstance(thing, str) and all([is_sign(sign) for sign in thing])


def is_value(thing):
    if isinstance(thing, list):
        return all([is_value(item) for item in thing])
    if isinstance(thing, dict):
        return all([is_text(name) and is_value(thing[name]) for name in thing])
    # To Python truths are ints, so they need no row of their own here.
    return thing is None or isinstance(thing, int) or is_text(thing)


def kind_of(value):
    if value is None:
        return "nothing"
    # Ahead of the numbers, as to Python truths are ints.
    if isinstance(value, bool):
        return "truth"
    if isinstance(value, int):
        return "number"
    if isinstance(value, str):
        return "text"
    if isinstance(value, list):
        return "list"
    return "dict"


def steps_in(value):
    if isinstance(value, list):
        return list(range(len(value)))
    if isinstance(value, dict):
        return sorted(value)
    return []


def same(one, other):
    kind = kind_of(one)
    if kind != kind_of(other):
        return False
    # Not by Python's == on the whole: to it 1 and True are equal, at any depth.
    if kind == "list" or kind == "dict":
        steps = steps_in(one)
        return steps == steps_in(other) and all([same(one[step], other[step]) for step in steps])
    return one == other


def copied(value):
    if isinstance(value, list):
        return [copied(item) for item in value]
    if isinstance(value, dict):
        return dict([(name, copied(value[name])) for name in value])
    return value


def parts_in(value):
    return 1 + sum([parts_in(value[step]) for step in steps_in(value)])


def deep_in(value):
    return 1 + max([deep_in(value[step]) for step in steps_in(value)], default=0)


def paths_in(value):
    paths = [()]
    for step in steps_in(value):
        paths.extend([(step,) + path for path in paths_in(value[step])])
    return paths


def leads(value, step):
    if isinstance(value, list):
        return is_whole(step) and 0 <= step < len(value)
    # Texts alone are looked up: a step that is a list can't be asked for in a dict.
    return isinstance(value, dict) and isinstance(step, str) and step in value


def standing_at(value, path):
    if not isinstance(path, tuple):
        raise NoPath("a path is a tuple of steps")
    here = value
    for step in path:
        if not leads(here, step):
            raise NoPath("a step leads nowhere in the value")
        here = here[step]
    return here


def value_at(value, path):
    return copied(standing_at(value, path))


def with_value(value, path, other):
    standing_at(value, path)
    if path == ():
        return copied(other)
    whole = copied(value)
    holder = standing_at(whole, path[:-1])
    holder[path[-1]] = copied(other)
    return whole
