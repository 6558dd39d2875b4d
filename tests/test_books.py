"""Points 3, 4, 30 and 31: books, their deeds, taken back and done again, and their twins."""

import unittest

from leastform.books import Book
from leastform.errors import FormError, Full, NoDeed, NoName, NotLet
from leastform.letting import fault
from tests.helper import Asking, Dice, boxes, model_lets, model_told, shown, spoil, thrown_row, thrown_value

NO_NAMES = [
    "", "A", "aB", "a1", "1", "a b", " a", "a ", "abcdefghi", "a" * 60, "a-b", "_a", "a.", "\n", "a\n", "\ta", "a\tb", "\u00e9", "\u00e4", "a\u0131", "\u0430", "~",
    "a%", "{", "`", "abcdefg\n", "\"a\"",
]
METHODS = ["form", "samples", "is_shut", "shut", "free", "drop"]


def told_of(book):
    """All that a book tells of its names, as a text."""
    return shown([(name, book.form(name), book.samples(name), book.is_shut(name)) for name in book.names()])


def way_back(book):
    """What a book tells, from what it is now back to its first deed; done on a twin."""
    twin = book.twin()
    found = [told_of(twin)]
    while True:
        try:
            twin.undo()
        except NoDeed:
            return found
        found.append(told_of(twin))


def way_forth(book):
    twin = book.twin()
    found = [told_of(twin)]
    while True:
        try:
            twin.again()
        except NoDeed:
            return found
        found.append(told_of(twin))


def whole(book):
    return (told_of(book), way_back(book), way_forth(book))


class Books(Asking):
    def no(self, error, book, method, *things):
        """Refused, and nothing changed."""
        before = whole(book)
        with self.assertRaises(error) as caught:
            getattr(book, method)(*things)
        self.assertIs(type(caught.exception), error)
        self.assertEqual(whole(book), before)
        return caught.exception

    def filled(self):
        book = Book()
        book.take("a", 1)
        book.take("b", [1, "x"])
        book.shut("b")
        book.take("a", None)
        return book

    def test_a_new_book(self):
        book = Book()
        self.assertEqual(book.names(), [])
        self.no(NoDeed, book, "undo")
        self.no(NoDeed, book, "again")
        for method in METHODS:
            self.no(NoName, book, method, "a")

    def test_take(self):
        book = Book()
        for value, news in ((1, True), (1, False), (3, True), (2, True), (3, False), (1, False), (True, True), (None, True), (True, False), ([], True), ([], False),
                            ([1], True), ({}, True), ({"a": 1}, True), ({}, False), ({"a": 1}, False), ({"a": 2}, True), ("a", True), ("a", False), ("b", True)):
            self.assertIs(book.take("a", value), news, value)
        self.assertEqual(shown(book.samples("a")[:8]), shown([1, 1, 3, 2, 3, 1, True, None]))
        self.assertEqual(book.form("a"), model_told(book.samples("a")))
        self.assertEqual(book.names(), ["a"])

    def test_a_first_sample_is_always_news(self):
        for value in (None, True, 0, "", [], {}):
            book = Book()
            self.assertIs(book.take("x", value), True)
            self.assertIs(book.take("x", value), False)
            self.assertIs(book.take("y", value), True)
            self.assertEqual(shown(book.samples("x")), shown([value, value]))
            book.drop("x")
            self.assertIs(book.take("x", value), True)

    def test_samples_stay_in_their_order(self):
        book = Book()
        row = [3, 1, "b", 2, "a", 1, [2], {"b": 1, "a": 2}, 1]
        for place, value in enumerate(row):
            book.take("row", value)
            self.assertEqual(shown(book.samples("row")), shown(row[:place + 1]))
            self.assertEqual(book.form("row"), model_told(row[:place + 1]))

    def test_names(self):
        book = Book()
        for name in ("z", "a", "abcdefgh", "zzzzzzzz", "b", "ab"):
            book.take(name, 1)
        self.assertEqual(book.names(), ["a", "ab", "abcdefgh", "b", "z", "zzzzzzzz"])
        for name in NO_NAMES:
            self.no(NoName, book, "take", name, 1)
            for method in METHODS:
                self.no(NoName, book, method, name)
        for method in METHODS:
            self.no(NoName, book, method, "c")
            self.no(NoName, book, method, "abcdefg")

    def test_shut_and_free(self):
        book = self.filled()
        self.assertIs(book.is_shut("a"), False)
        self.assertIs(book.is_shut("b"), True)
        self.no(NoDeed, book, "free", "a")
        self.no(NoDeed, book, "shut", "b")
        self.assertIsNone(book.shut("a"))
        self.assertIs(book.is_shut("a"), True)
        self.no(NoDeed, book, "shut", "a")
        self.assertIsNone(book.free("a"))
        self.no(NoDeed, book, "free", "a")
        self.assertIsNone(book.free("b"))
        self.assertIs(book.is_shut("b"), False)

    def test_not_let(self):
        book = Book()
        book.take("a", {"x": [1, 3], "y": None})
        book.take("a", {"x": []})
        book.shut("a")
        for value, path, word in (
            (None, (), "kind"), ([], (), "kind"), ({}, (), "lacks"), ({"x": [], "z": 1}, ("z",), "strange"), ({"x": [1, 1, 1]}, ("x",), "long"),
            ({"x": [1, 2]}, ("x", 1), "number"), ({"x": [True]}, ("x", 0), "kind"), ({"x": [], "y": 1}, ("y",), "kind"), ({"y": None}, (), "lacks"),
        ):
            error = self.no(NotLet, book, "take", "a", value)
            self.assertEqual(shown((error.path, error.word)), shown((path, word)))
            self.assertEqual((error.path, error.word), fault(book.form("a"), value))
        for value in ({"x": [3]}, {"x": [1, 1], "y": None}, {"x": []}):
            self.assertIs(book.take("a", value), False)
        self.assertEqual(len(book.samples("a")), 5)
        book.free("a")
        self.assertIs(book.take("a", None), True)

    def test_full(self):
        book = Book()
        for place in range(60):
            book.take("a", place % 7)
        self.assertEqual(len(book.samples("a")), 60)
        self.no(Full, book, "take", "a", 1)
        self.no(Full, book, "take", "a", "other")
        self.no(NoName, book, "take", "A", 1)
        self.assertIs(book.take("b", 1), True)
        book.shut("a")
        self.no(Full, book, "take", "a", 1)
        error = self.no(NotLet, book, "take", "a", 9)
        self.assertEqual((error.path, error.word), ((), "number"))
        book.free("a")
        book.undo()
        book.undo()
        book.undo()
        book.undo()
        self.assertIs(book.take("a", 1), False)
        self.no(Full, book, "take", "a", 1)
        book.drop("a")
        self.assertIs(book.take("a", 1), True)

    def test_drop(self):
        book = self.filled()
        self.assertIsNone(book.drop("b"))
        self.assertEqual(book.names(), ["a"])
        for method in METHODS:
            self.no(NoName, book, method, "b")
        self.assertIs(book.take("b", 5), True)
        self.assertIs(book.is_shut("b"), False)
        self.assertEqual(book.samples("b"), [5])
        book.drop("a")
        book.drop("b")
        self.assertEqual(book.names(), [])

    def test_undo_and_again_step_by_step(self):
        book = Book()
        seen = [told_of(book)]
        for deed in (("take", "a", 1), ("take", "a", 1), ("take", "b", {"x": []}), ("shut", "a"), ("take", "a", 1), ("free", "a"), ("take", "a", "y"), ("shut", "b"),
                     ("drop", "a"), ("take", "a", [2]), ("drop", "b"), ("take", "b", None), ("drop", "a"), ("drop", "b")):
            getattr(book, deed[0])(*deed[1:])
            seen.append(told_of(book))
        for turn in range(2):
            for expected in seen[-2::-1]:
                self.assertIsNone(book.undo())
                self.assertEqual(told_of(book), expected)
            self.no(NoDeed, book, "undo")
            for expected in seen[1:]:
                self.assertIsNone(book.again())
                self.assertEqual(told_of(book), expected)
            self.no(NoDeed, book, "again")
        for back in range(1, len(seen)):
            for _ in range(back):
                book.undo()
            self.assertEqual(told_of(book), seen[-1 - back])
            for _ in range(back):
                book.again()
            self.assertEqual(told_of(book), seen[-1])

    def test_a_new_deed_forgets_what_was_taken_back(self):
        for deed in (("take", "a", 7), ("take", "c", 7), ("shut", "a"), ("free", "b"), ("drop", "b")):
            book = self.filled()
            book.undo()
            ahead = told_of(book)
            getattr(book, deed[0])(*deed[1:])
            self.no(NoDeed, book, "again")
            book.undo()
            self.assertEqual(told_of(book), ahead)
            book.again()
            self.no(NoDeed, book, "again")

    def test_what_is_refused_forgets_nothing(self):
        book = self.filled()
        last = told_of(book)
        book.undo()
        for deed in (("take", "A", 1), ("take", "b", None), ("shut", "b"), ("free", "a"), ("drop", "c"), ("form", "c"), ("shut", "c"), ("free", "")):
            self.no({"take": NotLet if deed[1] == "b" else NoName, "shut": NoDeed if deed[1] == "b" else NoName,
                     "free": NoDeed if deed[1] == "a" else NoName}.get(deed[0], NoName), book, *deed)
        for ask in (book.names, book.twin, lambda: book.samples("a"), lambda: book.form("a"), lambda: book.is_shut("a")):
            ask()
        book.again()
        self.assertEqual(told_of(book), last)
        for _ in range(4):
            book.undo()
        self.no(NoDeed, book, "undo")
        book.again()
        self.assertEqual(book.names(), ["a"])

    def test_twins_go_their_own_ways(self):
        book = self.filled()
        book.undo()
        twin = book.twin()
        self.assertIsInstance(twin, Book)
        self.assertIsNot(twin, book)
        self.assertEqual(whole(twin), whole(book))
        before = whole(book)
        twin.again()
        twin.take("c", 1)
        twin.drop("a")
        twin.free("b")
        self.assertEqual(whole(book), before)
        before = whole(twin)
        book.undo()
        book.undo()
        book.take("z", [[]])
        self.assertEqual(whole(twin), before)
        self.assertEqual(book.names(), ["a", "z"])
        self.assertEqual(twin.names(), ["b", "c"])
        third = twin.twin()
        while True:
            try:
                twin.undo()
            except NoDeed:
                break
        self.assertEqual(twin.names(), [])
        self.assertEqual(whole(third), before)
        twin.again()
        self.assertEqual(twin.samples("a"), [1])

    def test_two_books_are_each_for_themselves(self):
        one, other = Book(), Book()
        one.take("a", 1)
        self.assertEqual(other.names(), [])
        self.no(NoDeed, other, "undo")
        other.take("b", 1)
        self.assertEqual(one.names(), ["a"])

    def test_what_was_handed_in_stays_and_may_be_changed_behind(self):
        book = Book()
        inner = [1]
        value = {"x": inner, "y": [inner, {"z": inner}]}
        before = shown(value)
        book.take("a", value)
        book.take("a", value)
        self.assertEqual(shown(value), before)
        ahead = whole(book)
        spoil(value)
        self.assertEqual(whole(book), ahead)
        book.undo()
        spoil(inner)
        book.again()
        self.assertEqual(whole(book), ahead)

    def test_what_was_told_may_be_changed_behind(self):
        book = Book()
        for value in ([1, {"a": []}], {"a": [[]]}, []):
            book.take("a", value)
        book.take("b", [[]])
        ahead = whole(book)
        twin = book.twin()
        found = [book.samples("a"), book.samples("a"), book.names(), book.names(), twin.samples("a"), twin.names()]
        self.assertEqual(len(boxes(found)), len({id(box) for box in boxes(found)}))
        spoil(found)
        self.assertEqual(whole(book), ahead)
        self.assertEqual(whole(twin), ahead)
        book.undo()
        spoil(book.samples("a"))
        book.again()
        self.assertEqual(whole(book), ahead)

    def test_a_path_told_by_a_refusal(self):
        book = Book()
        book.take("a", [1])
        book.shut("a")
        error = self.no(NotLet, book, "take", "a", [True])
        self.assertEqual((error.path, error.word), ((0,), "kind"))
        self.assertIsInstance(error, FormError)

    def test_thrown_deeds(self):
        for seed in range(25):
            self.walk(Dice(seed), 90)

    def walk(self, dice, many):
        """A book beside a model of it: a list of all that was, each a dict of name to (samples, shut), and a place in it."""
        book = Book()
        states, at = [{}], 0
        for turn in range(many):
            kept = states[at]
            name = dice.one_of(["a", "b", "cc"])
            deed = dice.one_of(["take"] * 5 + ["shut", "shut", "free", "free", "drop", "undo", "undo", "undo", "again", "again", "twin"])
            samples, shut = kept.get(name, ([], False))
            after, error, answer = None, None, None
            if deed == "take":
                value = thrown_value(dice, 2) if dice.below(3) else dice.below(3)
                if shut and not model_lets(model_told(samples), value):
                    error = NotLet
                elif len(samples) == 60:
                    error = Full
                else:
                    after = {**kept, name: (samples + [value], shut)}
                    answer = model_told(samples + [value]) != model_told(samples)
                self.does(book, error, answer, deed, name, value)
            elif deed in ("shut", "free", "drop"):
                if name not in kept:
                    error = NoName
                elif deed != "drop" and shut == (deed == "shut"):
                    error = NoDeed
                else:
                    after = {other: kept[other] for other in kept if other != name}
                    if deed != "drop":
                        after[name] = (samples, not shut)
                self.does(book, error, None, deed, name)
            elif deed == "undo":
                self.does(book, NoDeed if at == 0 else None, None, deed)
                at = max(at - 1, 0)
            elif deed == "again":
                self.does(book, NoDeed if at == len(states) - 1 else None, None, deed)
                at = min(at + 1, len(states) - 1)
            else:
                other = book
                book = book.twin()
                spoil(other.names())
                other.take("zz", turn)
                other.undo()
                other.take("a", "other") if not ("a" in kept and kept["a"][1]) else other.drop("a")
            if after is not None:
                states = states[:at + 1] + [after]
                at += 1
            kept = states[at]
            self.assertEqual(told_of(book), shown([(name, model_told(kept[name][0]), kept[name][0], kept[name][1]) for name in sorted(kept)]))

    def does(self, book, error, answer, method, *things):
        if error is not None:
            self.no(error, book, method, *things)
        else:
            self.assertIs(getattr(book, method)(*things), answer)

    def test_thrown_rows(self):
        for seed in range(20):
            row = thrown_row(seed, 20)
            book = Book()
            for place, sample in enumerate(row):
                self.assertIs(book.take("n", sample), place == 0 or model_told(row[:place + 1]) != model_told(row[:place]))
            self.assertEqual(book.form("n"), model_told(row))
            self.assertEqual(shown(book.samples("n")), shown(row))


class ByName(unittest.TestCase):
    def test_arguments_have_the_interface_s_names(self):
        book = Book()
        self.assertIs(book.take(name="a", value=None), True)
        self.assertEqual(book.form(name="a"), (("nothing",),))
        self.assertEqual(book.samples(name="a"), [None])
        self.assertIs(book.is_shut(name="a"), False)
        book.shut(name="a")
        book.free(name="a")
        book.drop(name="a")
        self.assertEqual(book.names(), [])


if __name__ == "__main__":
    unittest.main()
