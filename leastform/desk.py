"""The desk, which keeps forms by names and answers rows of words."""

from leastform.books import is_name
from leastform.changing import breaks
from leastform.errors import NoName, NoRow
from leastform.formtexts import read_form, show_form
from leastform.holding import parted
from leastform.joining import form_of, joined
from leastform.letting import fault
from leastform.making import made
from leastform.meeting import are_apart, met
from leastform.valuetexts import read_value, show_truth, show_value

# By a row's first word, what its other words are: a name that need not be kept, one that must be, a text.
ROWS = {
    "form": ("new", "form"),
    "join": ("new", "kept", "kept"),
    "meet": ("new", "kept", "kept"),
    "value": ("new", "value"),
    "take": ("kept", "value"),
    "drop": ("kept",),
    "show": ("kept",),
    "lets": ("kept", "value"),
    "within": ("kept", "kept"),
    "made": ("kept",),
    "apart": ("kept", "kept"),
    "breaks": ("kept", "kept"),
    "kept": (),
}


def words_in(row):
    if not isinstance(row, str):
        raise NoRow("a row is a text")
    sorts = ROWS.get(row.split(" ")[0])
    if sorts is None:
        raise NoRow("no row begins so")
    # A text that is written has blanks of its own.
    texts = "form" in sorts or "value" in sorts
    words = row.split(" ", len(sorts)) if texts else row.split(" ")
    if len(words) != len(sorts) + 1:
        raise NoRow("such a row has another number of words")
    return words


def lets_answer(form, value):
    found = fault(form, value)
    return "yes" if found is None else "no " + found[1]


def within_answer(one, other):
    found = parted(one, other)
    return "yes" if found == () else "no " + show_value(found[0])


def breaks_answer(old, new):
    found = breaks(old, new)
    if found[0] != () and found[1] != ():
        return "both"
    if found[0] != ():
        return "writers"
    return "readers" if found[1] != () else "none"


# In the next two, things are what the words behind the first one tell: forms and values, and NEW itself.
def new_form(deed, things):
    if deed == "join":
        return joined(things[1], things[2])
    if deed == "meet":
        return met(things[1], things[2])
    if deed == "value":
        return form_of(things[1])
    return things[1]


def answer_to(asked, things):
    if asked == "show":
        return show_form(things[0])
    if asked == "lets":
        return lets_answer(things[0], things[1])
    if asked == "within":
        return within_answer(things[0], things[1])
    if asked == "made":
        return show_value(made(things[0]))
    if asked == "apart":
        return show_truth(are_apart(things[0], things[1]))
    return breaks_answer(things[0], things[1])


class Desk:
    def __init__(self):
        self.forms = {}

    def thing_of(self, sort, word):
        if sort == "form":
            return read_form(word)
        if sort == "value":
            return read_value(word)
        if not is_name(word) or (sort == "kept" and word not in self.forms):
            raise NoName("no such name is kept, or could be")
        return self.forms[word] if sort == "kept" else word

    def take(self, name, value):
        form = joined(self.forms[name], form_of(value))
        stays = form == self.forms[name]
        self.forms[name] = form
        return "same" if stays else "more"

    def drop(self, name):
        self.forms.pop(name)
        return "ok"

    def say(self, row):
        words = words_in(row)
        first = words[0]
        sorts = ROWS[first]
        # All words are looked at, from the left, ahead of what may change something.
        things = [self.thing_of(sorts[place], words[place + 1]) for place in range(len(sorts))]
        if first == "kept":
            return " ".join(sorted(self.forms))
        if first == "take":
            return self.take(words[1], things[1])
        if first == "drop":
            return self.drop(words[1])
        if sorts[0] == "new":
            self.forms[words[1]] = new_form(first, things)
            return "ok"
        return answer_to(first, things)
