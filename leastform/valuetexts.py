"""Values written as texts, and read again."""

from leastform.errors import NoText
from leastform.reading import read_whole
from leastform.values import kind_of
from leastform.words import rises


def show_truth(truth):
    return "yes" if truth else "no"


def show_text(text):
    return "\"" + text.replace("\"", "\"\"") + "\""


def show_value(value):
    kind = kind_of(value)
    if kind == "truth":
        return show_truth(value)
    if kind == "number":
        return str(value)
    if kind == "text":
        return show_text(value)
    if kind == "list":
        return "[" + ", ".join([show_value(item) for item in value]) + "]"
    if kind == "dict":
        return "{" + ", ".join([show_text(name) + ": " + show_value(value[name]) for name in sorted(value)]) + "}"
    return "nothing"


def list_read(reader):
    items = []
    if reader.passes("]"):
        return items
    items.append(value_read(reader))
    while reader.passes(", "):
        items.append(value_read(reader))
    reader.needs("]")
    return items


def named_read(reader):
    name = reader.read_quoted()
    reader.needs(": ")
    return (name, value_read(reader))


def dict_read(reader):
    if reader.passes("}"):
        return {}
    pairs = [named_read(reader)]
    while reader.passes(", "):
        pairs.append(named_read(reader))
    reader.needs("}")
    if not rises([pair[0] for pair in pairs]):
        raise NoText("the names of a dict are not written so")
    return dict(pairs)


def value_read(reader):
    # Ahead of the word that it begins with.
    if reader.passes("nothing"):
        return None
    if reader.passes("no"):
        return False
    if reader.passes("yes"):
        return True
    if reader.sees("\""):
        return reader.read_quoted()
    if reader.passes("["):
        return list_read(reader)
    if reader.passes("{"):
        return dict_read(reader)
    return reader.read_number()


def read_value(text):
    return read_whole(text, value_read)
