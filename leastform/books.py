"""Books, which keep rows of samples by names, and deeds that can be taken back."""

from leastform.errors import Full, NoDeed, NoName, NotLet
from leastform.joining import form_of, joined
from leastform.letting import fault
from leastform.values import copied

MOST_SIGNS = 8
MOST_SAMPLES = 60


def is_name(thing):
    if not isinstance(thing, str) or not 1 <= len(thing) <= MOST_SIGNS:
        return False
    return all(["a" <= sign <= "z" for sign in thing])


# What is kept by a name is an entry, a tuple (samples, form, is shut), None by one that isn't kept. No entry is ever
# changed, so a deed is told by its name and the entries ahead of it and behind it, and twins may share them.
class Book:
    def __init__(self):
        self.entries = {}
        self.done = []
        self.taken_back = []

    def entry_of(self, name):
        if not is_name(name) or name not in self.entries:
            raise NoName("no such name is kept")
        return self.entries[name]

    def put(self, name, entry):
        if entry is None:
            self.entries.pop(name, None)
        else:
            self.entries[name] = entry

    def do(self, name, entry):
        self.done.append((name, self.entries.get(name), entry))
        self.taken_back.clear()
        self.put(name, entry)

    def take(self, name, value):
        if not is_name(name):
            raise NoName("a name is of one to eight small letters")
        entry = self.entries.get(name, ((), (), False))
        found = fault(entry[1], value) if entry[2] else None
        if found is not None:
            raise NotLet(found[0], found[1])
        if len(entry[0]) >= MOST_SAMPLES:
            raise Full("no more samples are kept by a name")
        form = joined(entry[1], form_of(value))
        self.do(name, (entry[0] + (copied(value),), form, entry[2]))
        return form != entry[1]

    def form(self, name):
        return self.entry_of(name)[1]

    def samples(self, name):
        return [copied(sample) for sample in self.entry_of(name)[0]]

    def is_shut(self, name):
        return self.entry_of(name)[2]

    def turn(self, name, to_shut):
        entry = self.entry_of(name)
        if entry[2] == to_shut:
            raise NoDeed("it is so already")
        self.do(name, (entry[0], entry[1], to_shut))

    def shut(self, name):
        self.turn(name, True)

    def free(self, name):
        self.turn(name, False)

    def drop(self, name):
        self.entry_of(name)
        self.do(name, None)

    def undo(self):
        if len(self.done) == 0:
            raise NoDeed("no deed is left to be taken back")
        deed = self.done.pop()
        self.taken_back.append(deed)
        self.put(deed[0], deed[1])

    def again(self):
        if len(self.taken_back) == 0:
            raise NoDeed("no deed is left to be done again")
        deed = self.taken_back.pop()
        self.done.append(deed)
        self.put(deed[0], deed[2])

    def names(self):
        return sorted(self.entries)

    def twin(self):
        other = Book()
        other.entries = dict(self.entries)
        other.done = list(self.done)
        other.taken_back = list(self.taken_back)
        return other
