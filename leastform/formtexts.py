"""Forms written as texts, and read again."""

from leastform.errors import NoText
from leastform.forms import is_form
from leastform.reading import read_whole
from leastform.valuetexts import show_text, show_truth
from leastform.words import MARKS


def show_words(words):
    if words[0] == "few":
        return " ".join(["few"] + [show_text(text) for text in words[1]])
    return " ".join(["make", show_text(words[1]), show_bounds(words[2], words[3])] + list(words[4]))


def show_bounds(least, most):
    return f"{least} to {most}"


def show_field(field):
    must = "must" if field[1] else "may"
    return " ".join([show_text(field[0]), must, show_within(field[2])])


def show_within(form):
    return "(" + show_form(form) + ")"


# The parts that have forms within them.
def show_holder(part):
    bounds = show_bounds(part[1], part[2])
    if part[0] == "lists":
        return f"list {bounds} of " + show_within(part[3])
    if part[0] == "record":
        return f"record {bounds} of (" + ", ".join([show_field(field) for field in part[3]]) + ")"
    return f"table {bounds} of (" + show_words(part[3]) + " " + show_within(part[4]) + ")"


def show_part(part):
    if part[0] == "nothing":
        return "nothing"
    if part[0] == "truths":
        return " ".join(["truth"] + [show_truth(truth) for truth in part[1]])
    if part[0] == "numbers":
        return "number " + show_bounds(part[1], part[2]) + " by " + str(part[3])
    if part[0] == "texts":
        return "text " + show_words(part[1])
    return show_holder(part)


def show_form(form):
    return "never" if form == () else " | ".join([show_part(part) for part in form])


def bounds_read(reader):
    least = reader.read_number()
    reader.needs(" to ")
    return (least, reader.read_number())


def truths_read(reader):
    truths = ()
    for truth in (False, True):
        if reader.passes(" " + show_truth(truth)):
            truths = truths + (truth,)
    return truths


def numbers_read(reader):
    bounds = bounds_read(reader)
    reader.needs(" by ")
    return bounds + (reader.read_number(),)


def few_read(reader):
    texts = []
    while reader.sees(" \""):
        reader.needs(" ")
        texts.append(reader.read_quoted())
    return ("few", tuple(texts))


def make_read(reader):
    reader.needs("make ")
    head = reader.read_quoted()
    reader.needs(" ")
    bounds = bounds_read(reader)
    marks = ()
    for mark in MARKS:
        if reader.passes(" " + mark):
            marks = marks + (mark,)
    return ("make", head) + bounds + (marks,)


def within_read(reader):
    reader.needs("(")
    form = form_read(reader)
    reader.needs(")")
    return form


def field_read(reader):
    name = reader.read_quoted()
    must = reader.passes(" must ")
    if not must:
        reader.needs(" may ")
    return (name, must, within_read(reader))


def fields_read(reader):
    fields = []
    if reader.sees("\""):
        fields.append(field_read(reader))
        while reader.passes(", "):
            fields.append(field_read(reader))
    return tuple(fields)


def lists_read(reader):
    bounds = bounds_read(reader)
    reader.needs(" of ")
    return ("lists",) + bounds + (within_read(reader),)


def record_read(reader):
    bounds = bounds_read(reader)
    reader.needs(" of (")
    fields = fields_read(reader)
    reader.needs(")")
    return ("record",) + bounds + (fields,)


def table_read(reader):
    bounds = bounds_read(reader)
    reader.needs(" of (")
    make = make_read(reader)
    reader.needs(" ")
    form = within_read(reader)
    reader.needs(")")
    return ("table",) + bounds + (make, form)


def part_read(reader):
    if reader.passes("nothing"):
        return ("nothing",)
    if reader.passes("truth"):
        return ("truths", truths_read(reader))
    if reader.passes("number "):
        return ("numbers",) + numbers_read(reader)
    if reader.passes("text few"):
        return ("texts", few_read(reader))
    if reader.passes("text "):
        return ("texts", make_read(reader))
    if reader.passes("list "):
        return lists_read(reader)
    if reader.passes("record "):
        return record_read(reader)
    reader.needs("table ")
    return table_read(reader)


# What is read here has a form's shape; whether it is one is asked of the whole.
def form_read(reader):
    if reader.passes("never"):
        return ()
    parts = [part_read(reader)]
    while reader.passes(" | "):
        parts.append(part_read(reader))
    return tuple(parts)


def read_form(text):
    form = read_whole(text, form_read)
    if not is_form(form):
        raise NoText("what is written tells no form")
    return form
