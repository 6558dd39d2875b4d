"""Words, which tell texts: a few of them, or a make of very many, reckoned with by its parts alone."""

from leastform.errors import NoSamples, NoValue
from leastform.values import is_text, is_whole

MOST_FEW = 6

# Sorted, as the marks of a text and of a make are.
MARKS = ("figure", "great", "other", "small")

SIGNS = {
    "figure": "0123456789",
    "great": "ABCDEFGHIJKLMNOPQRSTUVWXYZ",
    "other": " !\"#$&'()*+,-./:;<=>?@[\\]^_`{|}~",
    "small": "abcdefghijklmnopqrstuvwxyz",
}


def has_mark(text, mark):
    return any([sign in SIGNS[mark] for sign in text])


def marks_of(text):
    return tuple([mark for mark in MARKS if has_mark(text, mark)])


def marks_joined(one, other):
    return tuple(sorted(set(one) | set(other)))


def rises(things):
    return all([things[place] < things[place + 1] for place in range(len(things) - 1)])


def is_few(thing):
    if len(thing) != 2 or not isinstance(thing[1], tuple):
        return False
    texts = thing[1]
    return 1 <= len(texts) <= MOST_FEW and all([is_text(text) for text in texts]) and rises(texts)


def are_marks(thing):
    if not isinstance(thing, tuple) or len(thing) == 0:
        return False
    return all([mark in MARKS for mark in thing]) and rises(thing)


def is_make(thing):
    if len(thing) != 5 or not is_text(thing[1]) or not are_marks(thing[4]):
        return False
    least = thing[2]
    most = thing[3]
    return is_whole(least) and is_whole(most) and 0 <= least <= most and most >= 1


def is_words(thing):
    if not isinstance(thing, tuple) or len(thing) == 0:
        return False
    if thing[0] == "few":
        return is_few(thing)
    return thing[0] == "make" and is_make(thing)


def shared_head(one, other):
    size = 0
    while size < len(one) and size < len(other) and one[size] == other[size]:
        size = size + 1
    return one[:size]


# Of one text alone, or few, this may be no words yet: most may be 0, and there may be no marks.
def make_of(texts):
    # What the first and the last of them, as they are sorted, begin with, all between begin with.
    head = shared_head(min(texts), max(texts))
    tails = [text[len(head):] for text in texts]
    sizes = [len(tail) for tail in tails]
    return ("make", head, min(sizes), max(sizes), marks_of("".join(tails)))


def words_of(texts):
    if len(texts) == 0:
        raise NoSamples("no texts, so no words")
    unlike = sorted(set(texts))
    if len(unlike) <= MOST_FEW:
        return ("few", tuple(unlike))
    return make_of(unlike)


def words_let(words, text):
    if words[0] == "few":
        return text in words[1]
    if not text.startswith(words[1]):
        return False
    tail = text[len(words[1]):]
    return words[2] <= len(tail) <= words[3] and all([mark in words[4] for mark in marks_of(tail)])


def as_make(words):
    return make_of(words[1]) if words[0] == "few" else words


# The make with a beginning of its head for a head: what is cut off the head comes to the rest.
def with_shorter_head(make, head):
    tail = make[1][len(head):]
    marks = marks_joined(make[4], marks_of(tail))
    return ("make", head, make[2] + len(tail), make[3] + len(tail), marks)


def makes_joined(one, other):
    head = shared_head(one[1], other[1])
    first = with_shorter_head(one, head)
    second = with_shorter_head(other, head)
    least = min(first[2], second[2])
    most = max(first[3], second[3])
    return ("make", head, least, most, marks_joined(first[4], second[4]))


def words_joined(one, other):
    if one[0] == "few" and other[0] == "few":
        return words_of(list(one[1]) + list(other[1]))
    return makes_joined(as_make(one), as_make(other))


# The head of longer is at least as long as that of shorter.
def makes_met(longer, shorter):
    head = longer[1]
    tail = head[len(shorter[1]):]
    if not head.startswith(shorter[1]) or not all([mark in shorter[4] for mark in marks_of(tail)]):
        return None
    marks = tuple([mark for mark in longer[4] if mark in shorter[4]])
    least = max(longer[2], shorter[2] - len(tail))
    most = min(longer[3], shorter[3] - len(tail))
    if len(marks) == 0:
        most = min(most, 0)
    if least > most:
        return None
    # Without a sign behind it the head is the one text left, and a make would let more by.
    if most == 0:
        return ("few", (head,))
    return ("make", head, least, most, marks)


def few_met(few, other):
    texts = tuple([text for text in few[1] if words_let(other, text)])
    return ("few", texts) if len(texts) > 0 else None


def words_met(one, other):
    if one[0] == "few":
        return few_met(one, other)
    if other[0] == "few":
        return few_met(other, one)
    if len(one[1]) < len(other[1]):
        return makes_met(other, one)
    return makes_met(one, other)


# Cut at most, and not reckoned further than that needs: the lengths may be of any size.
def tails_many(signs, shortest, longest, most):
    many = 0
    power = 1
    length = 0
    while length <= longest:
        # As there are more tails the longer they are, this holds for the lengths below shortest, too.
        if many + power >= most:
            return most
        if length >= shortest:
            many = many + power
        power = power * len(signs)
        length = length + 1
    return many


def signs_of(marks):
    return "".join([SIGNS[mark] for mark in marks])


def words_many(words, most):
    if words[0] == "few":
        return min(len(words[1]), most)
    return tails_many(signs_of(words[4]), words[2], words[3], most)


# Unlike first signs leave no longer head, and with more texts than are few, their words are a make.
def words_texts(words):
    if words[0] == "few":
        return list(words[1])
    head = words[1]
    marks = words[4]
    signs = SIGNS[marks[0]][:MOST_FEW + 1] + "".join([SIGNS[mark][0] for mark in marks[1:]])
    texts = [head + sign * words[3] for sign in signs]
    if words[2] < words[3]:
        texts.append(head + signs[0] * words[2])
    return texts


# What lets by texts whose words are one lets all of one by, so no other texts need be asked for.
def words_parted(one, other):
    for text in words_texts(one):
        if not words_let(other, text):
            return text
    return None


def words_within(one, other):
    return words_parted(one, other) is None


# The place written in figures that are the signs: so unlike places have unlike tails.
def tail_at(signs, length, place):
    tail = ""
    for turn in range(length):
        tail = signs[place % len(signs)] + tail
        place = place // len(signs)
    return tail


def words_some(words, many):
    if words_many(words, many) < many:
        raise NoValue("the words let fewer texts by")
    if words[0] == "few":
        return list(words[1][:many])
    signs = signs_of(words[4])
    texts = []
    length = words[2]
    while len(texts) < many:
        here = tails_many(signs, length, length, many - len(texts))
        texts.extend([words[1] + tail_at(signs, length, place) for place in range(here)])
        length = length + 1
    return texts
