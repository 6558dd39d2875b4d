"""What the tests share: strict comparing, asking in a way that holds the program to point 3, and models of forms.

The models are written from the points alone and draw on runs and words, which have tests of their own."""

import itertools
import unittest

from leastform.runs import run_has, run_of, run_within
from leastform.words import words_let, words_of, words_within


def shown(thing):
    """A text that tells 1 from True and lists from tuples, whatever the order of a dict's names."""
    if isinstance(thing, dict):
        return "{" + ", ".join(sorted(f"{shown(k)}: {shown(v)}" for k, v in thing.items())) + "}"
    if isinstance(thing, list):
        return "[" + ", ".join(shown(item) for item in thing) + "]"
    if isinstance(thing, tuple):
        return "(" + "".join(shown(item) + "," for item in thing) + ")"
    return repr(thing)


def inside(thing):
    if isinstance(thing, dict):
        return list(thing) + list(thing.values())
    return list(thing) if isinstance(thing, (list, tuple)) else []


def boxes(thing):
    """All lists and dicts in a thing, each as often as it stands there."""
    found = [thing] if isinstance(thing, (list, dict)) else []
    for part in inside(thing):
        found.extend(boxes(part))
    return found


def spoil(thing):
    """Changes every list and dict in a thing."""
    for box in boxes(thing):
        if isinstance(box, list):
            box.append("spoilt")
            box.reverse()
        else:
            box.clear()
            box["spoilt"] = "spoilt"


def anything():
    """Things that are neither a value, a run nor words, made anew."""
    return [
        (), (None,), (1,), ("a",), ([],), ({},), ((),), (((), ()), ()), (1, 2), (True, False),
        "\n", "\t", "a\nb", "tab\there", "a\r", "per%cent", "%", "\x7f", "\x1f", "\x00", "\u00e9", "\u2028",
        [()], [[()]], [1, (2,)], ["a\n"], ["\t"], [None, "%"], [[["%"]]], [{"a": "\n"}], [{"a": ()}],
        {"a": ()}, {"a": [()]}, {"a": {"b": "%"}}, {"a": ["\t"]}, {"a": {"b": ["\n"]}}, {"a": [{"b": "\u00e9"}]},
        {"%": 1}, {"\n": 1}, {"a\tb": 1}, {1: 1}, {True: 1}, {None: 1}, {(): 1}, {(1, 2): "a"}, {0: []},
        {"a": 1, 2: 2}, {"a": {1: 2}}, [{1: 2}], [[{"a": {None: None}}]], {"a": [{"%": 1}]}, {"a": {("b",): 1}},
    ]


class Asking(unittest.TestCase):
    def ask(self, call, *things):
        """The answer, once it is seen that asking keeps what point 3 promises."""
        before = shown(things)
        first = call(*things)
        answer = shown(first)
        self.assertEqual(shown(things), before, "what was handed in is changed")
        mine = [id(box) for box in boxes(first)]
        handed = [id(box) for box in boxes(things)]
        self.assertEqual(len(mine), len(set(mine)), "a list or dict is told at two places")
        self.assertFalse(set(mine) & set(handed), "what is told is not new")
        spoil(first)
        second = call(*things)
        self.assertEqual(shown(second), answer, "asked again, another thing is told")
        self.assertEqual(shown(things), before, "what was handed in is changed")
        return second

    def told(self, expected, call, *things):
        answer = self.ask(call, *things)
        self.assertEqual(shown(answer), shown(expected), f"{call.__name__}{things!r}")

    def refused(self, error, call, *things):
        before = shown(things)
        for _ in range(2):
            with self.assertRaises(error, msg=f"{call.__name__}{things!r}") as caught:
                call(*things)
            self.assertIs(type(caught.exception), error)
            self.assertEqual(shown(things), before, "what was handed in is changed")


def few(*texts):
    return ("few", texts)


def make(head, least, most, *some):
    return ("make", head, least, most, some)


KINDS = ("nothing", "truth", "number", "text", "list", "dict")
TAGS = {"nothing": ["nothing"], "truth": ["truths"], "number": ["numbers"], "text": ["texts"], "list": ["lists"],
        "dict": ["record", "table"]}


def model_kind(value):
    return {type(None): "nothing", bool: "truth", int: "number", str: "text", list: "list", dict: "dict"}[type(value)]


def model_part(form, kind):
    return next((part for part in form if part[0] in TAGS[kind]), None)


def model_lets(form, value):
    """Point 15."""
    kind = model_kind(value)
    part = model_part(form, kind)
    if part is None or kind == "nothing":
        return part is not None
    if kind == "truth":
        return any(value is truth for truth in part[1])
    if kind == "number":
        return run_has(part[1:], value)
    if kind == "text":
        return words_let(part[1], value)
    if not part[1] <= len(value) <= part[2]:
        return False
    if kind == "list":
        return all(model_lets(part[3], item) for item in value)
    if part[0] == "table":
        return all(words_let(part[3], name) and model_lets(part[4], value[name]) for name in value)
    forms = {name: form for name, _, form in part[3]}
    return (all(name in forms and model_lets(forms[name], value[name]) for name in value)
            and all(name in value for name, must, _ in part[3] if must))


def model_dicts(dicts):
    names = sorted({name for one in dicts for name in one})
    sizes = [len(one) for one in dicts]
    if len(names) > 8:
        pooled = [one[name] for one in dicts for name in one]
        return ("table", min(sizes), max(sizes), words_of(names), model_told(pooled))
    fields = [(name, all(name in one for one in dicts), model_told([one[name] for one in dicts if name in one]))
              for name in names]
    return ("record", min(sizes), max(sizes), tuple(fields))


def model_told(samples):
    """Points 17 to 19, read off all samples at once: nothing is joined one behind the other."""
    by_kind = {kind: [sample for sample in samples if model_kind(sample) == kind] for kind in KINDS}
    parts = []
    if by_kind["nothing"]:
        parts.append(("nothing",))
    if by_kind["truth"]:
        parts.append(("truths", tuple(sorted(set(by_kind["truth"])))))
    if by_kind["number"]:
        parts.append(("numbers",) + run_of(by_kind["number"]))
    if by_kind["text"]:
        parts.append(("texts", words_of(by_kind["text"])))
    if by_kind["list"]:
        sizes = [len(one) for one in by_kind["list"]]
        parts.append(("lists", min(sizes), max(sizes), model_told([item for one in by_kind["list"] for item in one])))
    if by_kind["dict"]:
        parts.append(model_dicts(by_kind["dict"]))
    return tuple(parts)


def model_dict_within(one, other):
    if not other[1] <= one[1] <= one[2] <= other[2]:
        return False
    if one[0] == "table":
        return other[0] == "table" and words_within(one[3], other[3]) and model_within(one[4], other[4])
    if other[0] == "table":
        return all(words_let(other[3], name) and model_within(form, other[4]) for name, _, form in one[3])
    mine = {name: (must, form) for name, must, form in one[3]}
    theirs = {name: (must, form) for name, must, form in other[3]}
    return (all(name in theirs and model_within(mine[name][1], theirs[name][1]) for name in mine)
            and all(name in mine and mine[name][0] for name in theirs if theirs[name][0]))


def model_part_within(kind, one, other):
    if other is None:
        return False
    if kind == "truth":
        return set(one[1]) <= set(other[1])
    if kind == "number":
        return run_within(one[1:], other[1:])
    if kind == "text":
        return words_within(one[1], other[1])
    if kind == "list":
        return other[1] <= one[1] <= one[2] <= other[2] and model_within(one[3], other[3])
    return kind == "nothing" or model_dict_within(one, other)


def model_within(one, other):
    """Point 22, part by part."""
    return all(model_part_within(kind, model_part(one, kind), model_part(other, kind))
               for kind in KINDS if model_part(one, kind) is not None)


class Dice:
    """Throws that are the same each time and under each Python."""

    def __init__(self, seed):
        self.state = seed * 2 + 1

    def below(self, many):
        self.state = (self.state * 6364136223846793005 + 1442695040888963407) % 2 ** 64
        return (self.state >> 33) % many

    def one_of(self, things):
        return things[self.below(len(things))]


NAMES = ["a", "b", "c", "d", "e", "f", "g", "h", "i", "", "a0", "a1", "Z", "-x"]
TEXTS = ["", "a", "b", "ab", "a0", "a1", "a2", "A", "-", "a b", "zz", "id-1", "id-22", "\"", "~"]


def thrown_value(dice, deep):
    kind = dice.below(8 if deep > 1 else 5)
    if kind == 0:
        return None
    if kind == 1:
        return dice.below(2) == 1
    if kind <= 3:
        return (dice.below(9) - 4) * dice.one_of([1, 1, 2, 3, 10 ** 20])
    if kind == 4:
        return dice.one_of(TEXTS)
    if kind == 5:
        return [thrown_value(dice, deep - 1) for _ in range(dice.one_of([0, 1, 2, 3, 7]))]
    names = NAMES[:dice.one_of([3, 6, 8, 9, 14])]
    chosen = [dice.one_of(names) for _ in range(dice.one_of([0, 1, 2, 4, 8, 30]))]
    return {name: thrown_value(dice, deep - 1) for name in chosen}


def thrown_row(seed, many, deep=3):
    """A row of samples, the same for equal arguments, made anew."""
    dice = Dice(seed)
    return [thrown_value(dice, deep) for _ in range(many)]


NO = ("nothing",)
NUMBERS = ("numbers", 0, 8, 2)
SMALLS = make("", 1, 2, "small")


def record(least, most, *fields):
    return ("record", least, most, fields)


def table(least, most, words, *parts):
    return ("table", least, most, words, parts)


def lists(least, most, *parts):
    return ("lists", least, most, parts)


def must(name, *parts):
    return (name, True, parts)


def may(name, *parts):
    return (name, False, parts)


def as_form(thing):
    """The form of a single part, or the form that is told by its parts."""
    return (thing,) if thing != () and isinstance(thing[0], str) else tuple(thing)


# One of each part, all leaves, and some with forms within, up to three deep.
LEAVES = [
    NO, ("truths", (False,)), ("truths", (True,)), ("truths", (False, True)), ("numbers", 3, 3, 0), NUMBERS,
    ("numbers", -10 ** 59, 10 ** 59, 2 * 10 ** 59), ("texts", few("")), ("texts", few("a", "b")),
    ("texts", SMALLS), ("texts", make("id-", 0, 3, "figure")),
]
HOLDERS = [
    lists(0, 0), lists(0, 1, NO), lists(2, 2, NUMBERS), lists(0, 60, NO, NUMBERS), lists(12, 12, ("texts", SMALLS)),
    lists(0, 2, lists(0, 0)), lists(1, 2, lists(0, 1, NO)), record(0, 0), record(1, 1, must("a", NO)),
    record(0, 1, may("a", NO)), record(1, 2, must("a", NUMBERS), may("b", NO)),
    record(1, 1, may("a", NUMBERS), may("b", NO)), record(0, 2, may("a", NUMBERS), may("b", NO)),
    record(2, 2, must("a", NO), must("b", lists(0, 0))), record(0, 1, may("", lists(0, 2, NO))),
    record(8, 8, *[must(name, NUMBERS) for name in "abcdefgh"]), record(0, 8, *[may(name, NUMBERS) for name in "abcdefgh"]),
    record(1, 1, must("a", record(1, 1, must("a", record(0, 0))))),
    table(0, 1, SMALLS, NO), table(9, 12, make("", 0, 2, "small"), NO, NUMBERS), table(1, 60, SMALLS, table(1, 1, SMALLS, NO)),
    table(0, 10, make("", 1, 1, "figure"), NUMBERS), table(2, 2, make("a", 0, 1, "figure"), record(0, 0)),
]
FORMS = [()] + [(part,) for part in LEAVES + HOLDERS] + [
    (NO, NUMBERS), (NO, ("truths", (True,)), NUMBERS, ("texts", SMALLS), lists(0, 2, NO), record(0, 0)),
    (NUMBERS, table(0, 1, SMALLS, NO)), (("texts", few("a")), lists(0, 0)),
]


def thrown_words(dice, kind):
    if kind == "few":
        return few(*sorted({dice.one_of(TEXTS) for _ in range(1 + dice.below(6))}))
    least = dice.below(3)
    marks = sorted({dice.one_of(["figure", "great", "other", "small"]) for _ in range(1 + dice.below(3))})
    return make(dice.one_of(["", "", "a", "id-", "n1"]), least, max(1, least + dice.below(3)), *marks)


def thrown_record(dice, deep):
    names = sorted({dice.one_of(NAMES) for _ in range(dice.below(9))})
    ways = dice.below(3)
    fields = [(name, ways == 2 or (ways == 1 and dice.below(2) == 1), thrown_form(dice, deep - 1)) for name in names]
    musts = sum(must for _, must, _ in fields)
    if musts == len(names):
        return record(musts, musts, *fields)
    least = musts + dice.below(len(names) - musts)
    return record(least, max(least, musts + 1) + dice.below(len(names) + 1 - max(least, musts + 1)), *fields)


def thrown_part(dice, kind, deep):
    if kind == "truth":
        return ("truths", dice.one_of([(False,), (True,), (False, True)]))
    if kind == "number":
        step = dice.one_of([0, 0, 1, 2, 3, 6, 10 ** 30])
        lo = dice.below(7) - 3
        return ("numbers", lo, lo + step * (1 + dice.below(6)), step)
    if kind == "text":
        return ("texts", thrown_words(dice, dice.one_of(["few", "make"])))
    if kind == "list":
        least = dice.below(4)
        most = least + dice.below(4)
        return ("lists", least, most, thrown_form(dice, deep - 1) if most > 0 else ())
    if kind == "dict" and dice.below(3) > 0:
        return thrown_record(dice, deep)
    if kind == "dict":
        most = dice.one_of([1, 2, 3, 9, 10])
        return ("table", dice.below(most + 1), most, thrown_words(dice, "make"), thrown_form(dice, deep - 1))
    return NO


def thrown_form(dice, deep):
    """A form that isn't (), of bounds of all sorts, at most so deep."""
    kinds = KINDS if deep > 1 else KINDS[:4]
    chosen = {dice.one_of(kinds) for _ in range(1 + dice.below(3))}
    return tuple(thrown_part(dice, kind, deep) for kind in KINDS if kind in chosen)


def thrown_forms(seed, many, deep=3):
    dice = Dice(seed)
    return [thrown_form(dice, deep) for _ in range(many)]


def deep_lists(least, most, deep, *parts):
    """Lists within one another, deep of them, the innermost with these parts for their items."""
    return parts if deep == 0 else (lists(least, most, *deep_lists(least, most, deep - 1, *parts)),)


def deep_records(names, least, most, field, deep, *parts):
    """Records within one another, with one of these below each name."""
    if deep == 0:
        return parts
    return (record(least, most, *[field(name, *deep_records(names, least, most, field, deep - 1, *parts)) for name in names]),)


def all_records(names, *parts):
    """Records with the first of these names, of all bounds that point 14 lets them have, each field with these parts."""
    for size in range(len(names) + 1):
        for musts in itertools.product((True, False), repeat=size):
            fields = [(name, is_must, parts) for name, is_must in zip(names, musts)]
            for least, most in itertools.product(range(size + 1), repeat=2):
                if sum(musts) <= least <= most <= size and (all(musts) or (least < size and most > sum(musts))):
                    yield record(least, most, *fields)
