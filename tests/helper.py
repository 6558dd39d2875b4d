"""What the tests share: strict comparing, and asking in a way that holds the program to point 3."""

import unittest


def shown(thing):
    """A text that tells 1 from True and lists from tuples, whatever the order of a dict's names."""
    if isinstance(thing, dict):
        return "{" + ", ".join(sorted(f"{shown(k)}: {shown(v)}" for k, v in thing.items())) + "}"
    if isinstance(thing, list):
        return "[" + ", ".join(shown(item) for item in thing) + "]"
    if isinstance(thing, tuple):
        return "(" + "".join(shown(item) + "," for item in thing) + ")"
    return repr(thing)


def inside(thing):
    if isinstance(thing, dict):
        return list(thing) + list(thing.values())
    return list(thing) if isinstance(thing, (list, tuple)) else []


def boxes(thing):
    """All lists and dicts in a thing, each as often as it stands there."""
    found = [thing] if isinstance(thing, (list, dict)) else []
    for part in inside(thing):
        found.extend(boxes(part))
    return found


def spoil(thing):
    """Changes every list and dict in a thing."""
    for box in boxes(thing):
        if isinstance(box, list):
            box.append("spoilt")
            box.reverse()
        else:
            box.clear()
            box["spoilt"] = "spoilt"


def anything():
    """Things that are neither a value, a run nor words, made anew."""
    return [
        (), (None,), (1,), ("a",), ([],), ({},), ((),), (((), ()), ()), (1, 2), (True, False),
        "\n", "\t", "a\nb", "tab\there", "a\r", "per%cent", "%", "\x7f", "\x1f", "\x00", "\u00e9", "\u2028",
        [()], [[()]], [1, (2,)], ["a\n"], ["\t"], [None, "%"], [[["%"]]], [{"a": "\n"}], [{"a": ()}],
        {"a": ()}, {"a": [()]}, {"a": {"b": "%"}}, {"a": ["\t"]}, {"a": {"b": ["\n"]}}, {"a": [{"b": "\u00e9"}]},
        {"%": 1}, {"\n": 1}, {"a\tb": 1}, {1: 1}, {True: 1}, {None: 1}, {(): 1}, {(1, 2): "a"}, {0: []},
        {"a": 1, 2: 2}, {"a": {1: 2}}, [{1: 2}], [[{"a": {None: None}}]], {"a": [{"%": 1}]}, {"a": {("b",): 1}},
    ]


class Asking(unittest.TestCase):
    def ask(self, call, *things):
        """The answer, once it is seen that asking keeps what point 3 promises."""
        before = shown(things)
        first = call(*things)
        answer = shown(first)
        self.assertEqual(shown(things), before, "what was handed in is changed")
        mine = [id(box) for box in boxes(first)]
        handed = [id(box) for box in boxes(things)]
        self.assertEqual(len(mine), len(set(mine)), "a list or dict is told at two places")
        self.assertFalse(set(mine) & set(handed), "what is told is not new")
        spoil(first)
        second = call(*things)
        self.assertEqual(shown(second), answer, "asked again, another thing is told")
        self.assertEqual(shown(things), before, "what was handed in is changed")
        return second

    def told(self, expected, call, *things):
        answer = self.ask(call, *things)
        self.assertEqual(shown(answer), shown(expected), f"{call.__name__}{things!r}")

    def refused(self, error, call, *things):
        before = shown(things)
        for _ in range(2):
            with self.assertRaises(error, msg=f"{call.__name__}{things!r}") as caught:
                call(*things)
            self.assertIs(type(caught.exception), error)
            self.assertEqual(shown(things), before, "what was handed in is changed")
