"""Points 2, 3, 4 and 10 to 13: words."""

import itertools
import os.path
import unittest

from leastform.errors import NoSamples, NoValue
from leastform.words import (
    is_words, marks_of, words_joined, words_let, words_many, words_met, words_of, words_parted, words_some, words_texts,
    words_within,
)
from tests.helper import Asking, anything, few, make

MANY = {"figure": 10, "great": 26, "other": 32, "small": 26}
MARKS = ("figure", "great", "other", "small")
ALL_SIGNS = [chr(code) for code in range(32, 127) if code != 37]
GREAT = 10 ** 59


def mark(sign):
    if sign in "0123456789":
        return "figure"
    if sign in "ABCDEFGHIJKLMNOPQRSTUVWXYZ":
        return "great"
    return "small" if sign in "abcdefghijklmnopqrstuvwxyz" else "other"


def marks(text):
    return tuple(sorted({mark(sign) for sign in text}))


def model_lets(words, text):
    if words[0] == "few":
        return text in words[1]
    _, head, least, most, some = words
    rest = text[len(head):]
    return text.startswith(head) and least <= len(rest) <= most and all(mark(sign) in some for sign in rest)


def model_words(texts):
    unlike = sorted(set(texts))
    if len(unlike) <= 6:
        return ("few", tuple(unlike))
    head = os.path.commonprefix(unlike)
    rests = [text[len(head):] for text in unlike]
    return ("make", head, min(map(len, rests)), max(map(len, rests)), marks("".join(rests)))


def model_many(words):
    if words[0] == "few":
        return len(words[1])
    signs = sum(MANY[one] for one in words[4])
    return sum(signs ** size for size in range(words[2], words[3] + 1))


# With two signs of each mark: makes that let by the same of these texts are one and the same make.
TEXTS = ["".join(signs) for size in range(5) for signs in itertools.product("01AB-+ab", repeat=size)]

FEWS = [
    few(""), few("a"), few("0"), few("", "a"), few("a", "a0"), few("a0", "ab"), few("-", "A", "a"), few("a0a", "a0b"),
    few("", "0", "1", "A", "a", "ab"), few("0", "1", "2", "3", "4", "5"), few("a", "a0", "a1", "aA", "aa", "ab"),
    few("a0aa"), few("B", "a-", "a-b"),
]
MAKES = [
    make(head, least, most, *some)
    for head in ("", "a", "0", "a0", "ab")
    for least, most in ((0, 1), (1, 1), (0, 2), (1, 2), (2, 2))
    for some in (("figure",), ("small",), ("other",), ("figure", "small"), ("great", "other"), MARKS)
]
POOL = FEWS + MAKES
LET_BY = {}


def let_by(words):
    if words not in LET_BY:
        bits = 0
        for place, text in enumerate(TEXTS):
            if model_lets(words, text):
                bits |= 1 << place
        LET_BY[words] = bits
    return LET_BY[words]


def model_within(one, other):
    if one[0] == "few":
        return all(model_lets(other, text) for text in one[1])
    return other[0] == "make" and let_by(one) & ~let_by(other) == 0


FAR_MAKES = [
    make("", 0, 60, *MARKS), make("", 60, 60, "figure"), make("x" * 30, 0, 30, "small"), make("x" * 59, 1, 1, "figure"),
    make("x" * 59, 0, 1, "other"), make("Zz", 3, 58, "great", "small"), make("", 1, 1, "figure"), make("", 0, 1, "great"),
    make("~\" ", 7, 40, "figure", "great", "other"), make("", 30, 60, "other"), make("a", 0, 59, "figure"),
]


class Marks(Asking):
    def test_each_sign(self):
        self.assertEqual(len(ALL_SIGNS), sum(MANY.values()))
        for sign in ALL_SIGNS:
            self.told((mark(sign),), marks_of, sign)
            self.told((mark(sign),), marks_of, sign * 3)

    def test_texts(self):
        for text, some in (
            ("", ()), ("0", ("figure",)), ("9", ("figure",)), ("A", ("great",)), ("Z", ("great",)), ("a", ("small",)),
            ("z", ("small",)), (" ", ("other",)), ("~", ("other",)), ("/", ("other",)), (":", ("other",)),
            ("@", ("other",)), ("[", ("other",)), ("`", ("other",)), ("{", ("other",)), ("_", ("other",)),
            ("a0", ("figure", "small")), ("aA", ("great", "small")), ("-1", ("figure", "other")),
            ("zZ9 ", ("figure", "great", "other", "small")), (" 9Zz" * 15, ("figure", "great", "other", "small")),
            ("aaaa", ("small",)), ("A B", ("great", "other")), ("A-z", ("great", "other", "small")),
        ):
            self.told(some, marks_of, text)


class IsWords(Asking):
    def test_words(self):
        for words in POOL + FAR_MAKES:
            self.told(True, is_words, words)
        for count in range(1, 5):
            for some in itertools.combinations(MARKS, count):
                self.told(True, is_words, make("h", 0, 1, *some))

    def test_no_bound_is_looked_at(self):
        for words in (make("", 0, 10 ** 69, "figure"), make("", 10 ** 69, 10 ** 69, "other"), make("x" * 100, 0, 61, "small"),
                      make("x" * 100, 100, 10 ** 65, *MARKS), few("x" * 100), few("", "x" * 99, "x" * 100)):
            self.told(True, is_words, words)

    def test_what_is_none(self):
        self.told(False, is_words, "few")
        self.told(False, is_words, "make")
        for thing in anything() + [None, True, 0, GREAT, "", [], {}, ["few"], {"few": 1}, "texts", "FEW"]:
            self.told(False, is_words, thing)
            self.told(False, is_words, (thing,))
            self.told(False, is_words, (thing, thing))
            self.told(False, is_words, (thing, ("a",)))
            self.told(False, is_words, (thing, "", 0, 1, ("small",)))

    def test_few_that_are_none(self):
        for thing in (
            ("few",), ("few", ()), ("few", ("a",), ()), ("few", ("a",), ("b",)), ("few", "a"), ("few", "ab"), ("few", ""),
            ("few", ["a"]), ["few", ("a",)], ("few", None), ("few", 1), ("few", {"a": 1}), ("few", ["a", "b"]),
            few("b", "a"), few("a", "a"), few("a", "b", "b"), few("a", "c", "b"), few("a", "A"), few("a", ""), few("", ""),
            few("1", "2", "3", "4", "5", "6", "7"), few("0", "1", "2", "3", "4", "5", "5"), few(*"0123456789"),
            ("FEW", ("a",)), ("fews", ("a",)), ("", ("a",)), (None, ("a",)), (("few",), ("a",)), ("make", ("a",)),
            (("a",), "few"), ("few", "a", "b"), (1, ("a",)), ("nothing",), ("texts", few("a")),
        ):
            self.told(False, is_words, thing)

    def test_few_with_what_is_no_text(self):
        for text in ("\n", "a\t", "%", "a%", "\u00e9", "\x7f", None, 0, 1, True, False, (), ("a",), [], ["a"], {}, {"a": 1}):
            for thing in (few(text), few("a", text), few(text, "a"), few("", text, "~")):
                self.told(False, is_words, thing)

    def test_makes_of_another_number_of_parts(self):
        for thing in (("make",), ("make", ""), ("make", "", 0), ("make", "", 0, 1), ("make", "", 0, 1, ("small",), ()),
                      ["make", "", 0, 1, ("small",)], ("make", ("", 0, 1, ("small",))), ("few", "", 0, 1, ("small",)),
                      ("Make", "", 0, 1, ("small",)), (None, "", 0, 1, ("small",)), ("", 0, 1, ("small",))):
            self.told(False, is_words, thing)

    def test_makes_with_wrong_heads(self):
        for head in ("\n", "a\t", "%", "a%b", "\u00e9", None, 0, True, (), ("a",), [], ["a"], {}):
            self.told(False, is_words, make(head, 0, 1, "small"))

    def test_makes_with_wrong_bounds(self):
        for least, most in ((0, 0), (2, 1), (1, 0), (-1, 1), (-1, 0), (-2, -1), (0, -1), (10 ** 60, 1), (60, 59), (-GREAT, GREAT),
                            (False, 1), (0, True), (True, 1), (1, True), (True, 2), (False, True), (True, True), (None, 1),
                            (0, None), ("0", 1), (0, "1"), ((), 1), (0, ()), ([], 1), (0, [1]), ({}, 1), (0, {})):
            self.told(False, is_words, make("a", least, most, "small"))
        for least, most in ((0, 1), (1, 1), (1, 2), (0, GREAT)):
            self.told(True, is_words, make("a", least, most, "small"))

    def test_makes_with_wrong_marks(self):
        for some in (
            (), ("small", "figure"), ("small", "great"), ("other", "great"), ("small", "small"), ("figure", "figure", "small"),
            ("figure", "great", "small", "other"), ("figure", "great", "other", "small", "small"), ("figure", "small", "tiny"),
            ("any", "small"), ("tiny",), ("Small",), ("",), ("s",), ("small ",), (None,), (0,), (True,), (("small",),),
            (["small"],), ({},), ("figure", None), ("figure", ["small"]), ["small"], "small", None, 0, True, {"small": 1},
            ["figure", "small"], "figure", {},
        ):
            self.told(False, is_words, ("make", "a", 0, 1, some))


class WordsOf(Asking):
    def test_none(self):
        self.refused(NoSamples, words_of, [])

    def test_few(self):
        for texts, words in (
            (["a"], few("a")), ([""], few("")), (["b", "a"], few("a", "b")), (["a", "a", "a"], few("a")),
            (["b", "", "a", "B", "9", "~"], few("", "9", "B", "a", "b", "~")), (["ab", "a", "ab", "a"], few("a", "ab")),
            (["10", "9", "1"], few("1", "10", "9")), (list("abcdef"), few(*"abcdef")), (list("fedcba"), few(*"abcdef")),
            (list("abcdef") * 50, few(*"abcdef")), (["x" * 60], few("x" * 60)),
        ):
            self.told(words, words_of, texts)

    def test_seven_make_one(self):
        for texts, words in (
            (list("abcdefg"), make("", 1, 1, "small")),
            (list("gfedcba") * 3, make("", 1, 1, "small")),
            (list("abcdef") + [""], make("", 0, 1, "small")),
            (["x" + sign for sign in "abcdef1"], make("x", 1, 1, "figure", "small")),
            (["ab" + sign for sign in "123456"] + ["ab"], make("ab", 0, 1, "figure")),
            (["ab" + sign for sign in "123456"] + ["a"], make("a", 0, 2, "figure", "small")),
            ([f"id-{number}" for number in range(95, 105)], make("id-", 2, 3, "figure")),
            (["a", "aa", "aaa", "aaaa", "aaaaa", "aaaaaa", "aaaaaaa"], make("a", 0, 6, "small")),
            (["", "a", "aa", "aaa", "aaaa", "aaaaa", "aaaaaa"], make("", 0, 6, "small")),
            (["Zz9 " + sign * 5 for sign in "Aa0 BbC"], make("Zz9 ", 5, 5, *MARKS)),
            (["A" * 59 + sign for sign in "BCDEFGH"], make("A" * 59, 1, 1, "great")),
            (["A", "B", "C", "D", "E", "F", "a-b"], make("", 1, 3, "great", "other", "small")),
            (["ABx", "ABy", "ABz", "ABu", "ABv", "ABw", "AB"], make("AB", 0, 1, "small")),
        ):
            self.told(words, words_of, texts)
            self.told(words, words_of, texts[::-1])
            self.told(words, words_of, texts + texts)

    def test_three_hundred(self):
        texts = [f"n{number}" for number in range(300)]
        self.told(make("n", 1, 3, "figure"), words_of, texts)

    def test_as_the_model(self):
        for start in range(0, len(TEXTS) - 40, 97):
            for count in (1, 5, 6, 7, 8, 20):
                texts = TEXTS[start:start + count]
                self.told(model_words(texts), words_of, texts[::-1])

    def test_the_least_words_that_let_them_by(self):
        for texts in (["a0", "ab", "a", "aA"], ["a0" + sign for sign in "01abABx"], ["ab", "a0", "a1", "a", "b", "0", "00"]):
            told = self.ask(words_of, texts)
            for text in texts:
                self.assertTrue(model_lets(told, text))
            for words in POOL:
                if all(model_lets(words, text) for text in texts):
                    self.assertTrue(model_within(told, words))

    def test_asked_again_behind_a_change(self):
        texts = list("abcdef")
        self.told(few(*"abcdef"), words_of, texts)
        texts.append("0")
        self.told(make("", 1, 1, "figure", "small"), words_of, texts)
        self.assertEqual(texts, list("abcdef0"))


class WordsLet(Asking):
    def test_as_the_model(self):
        for words in POOL:
            for text in TEXTS[::7] + ["", "a", "0", "a0", "ab", "ab0", "A"]:
                self.assertIs(words_let(words, text), model_lets(words, text), f"{words} {text!r}")

    def test_few(self):
        words = few("", "a", "ab")
        for text, let in (("", True), ("a", True), ("ab", True), ("b", False), ("abc", False), ("A", False), (" ", False)):
            self.told(let, words_let, words, text)
        self.told(False, words_let, few("ab"), "a")
        self.told(False, words_let, few("ab"), "")

    def test_make(self):
        words = make("ab", 1, 3, "figure", "small")
        for text, let in (
            ("ab", False), ("ab1", True), ("ab1z", True), ("ab1z9", True), ("ab1z90", False), ("aB1", False), ("1", False),
            ("", False), ("a", False), ("b12", False), ("ac12", False), ("abA", False), ("ab1A", False), ("ab ", False),
            ("ab1-2", False), ("xab1", False), ("abab", True), ("12", False), ("abAB12", False),
        ):
            self.told(let, words_let, words, text)

    def test_make_from_no_sign_behind_its_head(self):
        words = make("Ab", 0, 2, "other")
        for text, let in (("Ab", True), ("A", False), ("", False), ("Ab-", True), ("Ab--", True), ("Ab---", False), ("Abb", False)):
            self.told(let, words_let, words, text)
        words = make("", 0, 1, "great")
        for text, let in (("", True), ("A", True), ("Z", True), ("AA", False), ("a", False)):
            self.told(let, words_let, words, text)

    def test_each_sign_behind_a_head(self):
        for some in MARKS:
            for sign in ALL_SIGNS:
                self.told(mark(sign) == some, words_let, make("h", 1, 1, some), "h" + sign)

    def test_long_ones(self):
        self.told(True, words_let, make("", 60, 60, "figure"), "7" * 60)
        self.told(False, words_let, make("", 60, 60, "figure"), "7" * 59)
        self.told(True, words_let, make("x" * 30, 0, 30, "small"), "x" * 60)
        self.told(False, words_let, make("x" * 30, 0, 29, "small"), "x" * 60)


class WordsJoined(Asking):
    def test_few_and_few(self):
        for one, other, words in (
            (few("a"), few("a"), few("a")), (few("a"), few("b"), few("a", "b")), (few("b"), few(""), few("", "b")),
            (few("a", "b", "c"), few("d", "e", "f"), few(*"abcdef")), (few(*"abcdef"), few(*"abcdef"), few(*"abcdef")),
            (few("a", "b", "c", "d"), few("c", "d", "e", "f"), few(*"abcdef")),
            (few(*"abcdef"), few("g"), make("", 1, 1, "small")), (few(*"abcdef"), few(""), make("", 0, 1, "small")),
            (few("x0", "x1", "x2", "x3"), few("x4", "xy5", "xZ"), make("x", 1, 2, "figure", "great", "small")),
            (few("ab1", "ab2", "ab3"), few("ab4", "ab5", "ab6", "ab7"), make("ab", 1, 1, "figure")),
            (few("ab1", "ab2", "ab3"), few("ab", "ab5", "ab6", "ab7"), make("ab", 0, 1, "figure")),
        ):
            self.told(words, words_joined, one, other)
            self.told(words, words_joined, other, one)

    def test_few_and_make(self):
        for one, other, words in (
            (few("ab1"), make("ab", 1, 3, "figure"), make("ab", 1, 3, "figure")),
            (few("ab"), make("ab", 1, 3, "figure"), make("ab", 0, 3, "figure")),
            (few("ab1234"), make("ab", 1, 3, "figure"), make("ab", 1, 4, "figure")),
            (few("abx"), make("ab", 1, 3, "figure"), make("ab", 1, 3, "figure", "small")),
            (few("a"), make("ab", 1, 3, "figure"), make("a", 0, 4, "figure", "small")),
            (few(""), make("ab", 1, 3, "figure"), make("", 0, 5, "figure", "small")),
            (few("", "-"), make("A", 2, 3, "figure"), make("", 0, 4, "figure", "great", "other")),
            (few("aA", "aB"), make("ab", 2, 2, "figure"), make("a", 1, 3, "figure", "great", "small")),
            (few("ab12", "ab13"), make("ab1", 2, 2, "figure"), make("ab1", 1, 2, "figure")),
            (few("ab12", "ab23"), make("ab1", 2, 2, "figure"), make("ab", 2, 3, "figure")),
            (few("xyz"), make("", 1, 1, "figure"), make("", 1, 3, "figure", "small")),
            (few("ab1x"), make("ab1", 0, 1, "great"), make("ab1", 0, 1, "great", "small")),
            (few("0", "1", "2"), make("", 1, 1, "figure"), make("", 1, 1, "figure")),
            (few("ab1", "ab2"), make("ab1234", 1, 1, "small"), make("ab", 1, 5, "figure", "small")),
        ):
            self.told(words, words_joined, one, other)
            self.told(words, words_joined, other, one)

    def test_make_and_make(self):
        for one, other, words in (
            (make("a", 1, 2, "small"), make("a", 1, 2, "small"), make("a", 1, 2, "small")),
            (make("a", 1, 2, "small"), make("a", 4, 5, "figure"), make("a", 1, 5, "figure", "small")),
            (make("a", 0, 1, "small"), make("b", 2, 2, "figure"), make("", 1, 3, "figure", "small")),
            (make("ab", 0, 1, "figure"), make("a", 3, 3, "figure"), make("a", 1, 3, "figure", "small")),
            (make("ab", 2, 9, "figure"), make("a", 3, 3, "figure"), make("a", 3, 10, "figure", "small")),
            (make("ab-x", 1, 1, "small"), make("ab+", 5, 5, "small"), make("ab", 3, 6, "other", "small")),
            (make("", 0, 1, "great"), make("Zz", 58, 58, "other"), make("", 0, 60, "great", "other", "small")),
            (make("AB", 1, 1, "great"), make("A", 1, 1, "great"), make("A", 1, 2, "great")),
            (make("x" * 59, 1, 1, "small"), make("x" * 58, 1, 1, "small"), make("x" * 58, 1, 2, "small")),
        ):
            self.told(words, words_joined, one, other)
            self.told(words, words_joined, other, one)

    def test_both_are_within(self):
        for one in POOL:
            for other in POOL[::3]:
                told = words_joined(one, other)
                self.assertIs(is_words(told), True)
                self.assertTrue(model_within(one, told), f"{one} {other} {told}")
                self.assertTrue(model_within(other, told), f"{one} {other} {told}")
                self.assertEqual(words_joined(other, one), told)

    def test_within_all_words_in_which_both_are(self):
        for one in POOL[::4]:
            for other in POOL[::3]:
                told = words_joined(one, other)
                for words in POOL:
                    if model_within(one, words) and model_within(other, words):
                        self.assertTrue(model_within(told, words), f"{one} {other} {told} {words}")

    def test_joined_with_what_is_within_nothing_changes(self):
        for one in POOL:
            for other in POOL[::5]:
                if model_within(one, other):
                    self.assertEqual(words_joined(one, other), other)

    def test_cutting_changes_nothing(self):
        texts = ["ab1", "ab2", "ab", "a", "abc", "ab-", "ab33", "aB", "ab1", "a0"]
        for cut in range(1, len(texts)):
            told = words_joined(words_of(texts[:cut]), words_of(texts[cut:]))
            self.assertEqual(told, words_of(texts))


class WordsMet(Asking):
    def test_with_few(self):
        for one, other, words in (
            (few("a"), few("a"), few("a")), (few("a"), few("b"), None), (few("a", "b"), few("b", "c"), few("b")),
            (few("", "a", "b"), few("", "b"), few("", "b")), (few(*"abcdef"), few(*"bdf"), few(*"bdf")),
            (few("ab1", "ab12", "b"), make("ab", 1, 1, "figure"), few("ab1")),
            (few("ab", "ab1", "ab12"), make("ab", 0, 1, "figure"), few("ab", "ab1")),
            (few("ab", "abc"), make("ab", 1, 3, "figure"), None), (few(""), make("", 1, 1, "figure"), None),
            (few(""), make("", 0, 1, "figure"), few("")), (few("0", "1", "a"), make("", 1, 60, "figure"), few("0", "1")),
        ):
            self.told(words, words_met, one, other)
            self.told(words, words_met, other, one)

    def test_make_and_make(self):
        for one, other, words in (
            (make("a", 1, 3, "small"), make("a", 1, 3, "small"), make("a", 1, 3, "small")),
            (make("a", 1, 3, "small"), make("a", 2, 5, "figure", "small"), make("a", 2, 3, "small")),
            (make("a", 1, 3, "small"), make("b", 1, 3, "small"), None),
            (make("ab", 0, 3, "small"), make("ac", 0, 3, "small"), None),
            (make("a", 0, 1, "small"), make("a", 2, 3, "small"), None),
            (make("a", 0, 1, "small"), make("a", 1, 3, "small"), make("a", 1, 1, "small")),
            (make("a", 0, 3, "small"), make("a", 0, 3, "figure"), few("a")),
            (make("a", 1, 3, "small"), make("a", 0, 3, "figure"), None),
            (make("a", 1, 3, "small"), make("a", 1, 3, "figure"), None),
            (make("a", 0, 5, "small"), make("abc", 0, 5, "small"), make("abc", 0, 3, "small")),
            (make("a", 0, 5, "small"), make("abc", 0, 5, "figure", "small"), make("abc", 0, 3, "small")),
            (make("a", 0, 5, "figure"), make("abc", 0, 5, "figure"), None),
            (make("a", 4, 5, "small"), make("abc", 0, 5, "small"), make("abc", 2, 3, "small")),
            (make("a", 2, 2, "small"), make("abc", 0, 5, "small"), few("abc")),
            (make("a", 0, 2, "small"), make("abc", 0, 5, "figure"), few("abc")),
            (make("a", 0, 9, "small"), make("abc", 0, 5, "figure"), few("abc")),
            (make("a", 3, 9, "small"), make("abc", 0, 5, "figure"), None),
            (make("a", 2, 2, "small"), make("abc", 1, 5, "small"), None),
            (make("a", 0, 1, "small"), make("abc", 0, 5, "small"), None),
            (make("a", 1, 1, "small"), make("abcdef", 0, 5, "small"), None),
            (make("", 0, 60, *MARKS), make("Zz", 3, 58, "great", "small"), make("Zz", 3, 58, "great", "small")),
            (make("", 0, 60, "great", "small"), make("Zz", 3, 58, "figure", "small"), make("Zz", 3, 58, "small")),
            (make("", 0, 60, "great"), make("Zz", 3, 58, "great"), None),
            (make("", 1, 1, "figure"), make("5", 0, 1, "figure"), few("5")),
            (make("", 1, 1, "figure", "small"), make("", 1, 1, "figure", "great"), make("", 1, 1, "figure")),
        ):
            self.told(words, words_met, one, other)
            self.told(words, words_met, other, one)

    def test_just_the_texts_that_both_let_by(self):
        for one in POOL:
            for other in POOL[::2]:
                told = words_met(one, other)
                both = let_by(one) & let_by(other)
                self.assertEqual(words_met(other, one), told)
                if told is None:
                    self.assertEqual(both, 0, f"{one} {other}")
                    continue
                self.assertIs(is_words(told), True)
                self.assertEqual(let_by(told), both, f"{one} {other} {told}")
                self.assertTrue(model_within(told, one) and model_within(told, other), f"{one} {other} {told}")


class WordsWithinAndParted(Asking):
    def hold(self, one, other):
        expected = model_within(one, other)
        self.assertIs(words_within(one, other), expected, f"{one} {other}")
        text = words_parted(one, other)
        if expected:
            self.assertIsNone(text, f"{one} {other}")
        else:
            self.assertIs(type(text), str)
            self.assertTrue(model_lets(one, text), f"{one} {other} {text!r}")
            self.assertFalse(model_lets(other, text), f"{one} {other} {text!r}")

    def test_all_pairs(self):
        for one in POOL:
            for other in POOL:
                self.hold(one, other)

    def test_by_hand(self):
        for one, other, within in (
            (few("a"), few("a"), True), (few("a"), few("a", "b"), True), (few("a", "b"), few("a"), False),
            (few("ab1"), make("ab", 0, 3, "figure"), True), (few("ab1", "b"), make("ab", 0, 3, "figure"), False),
            (make("", 1, 1, "figure"), few("0", "1", "2", "3", "4", "5"), False),
            (make("", 0, 1, "figure"), few("", "0", "1", "2", "8", "9"), False),
            (make("ab", 0, 1, "figure"), make("a", 0, 2, "figure", "small"), True),
            (make("ab", 0, 1, "figure"), make("a", 1, 2, "figure", "small"), True),
            (make("ab", 0, 1, "figure"), make("a", 2, 2, "figure", "small"), False),
            (make("ab", 0, 2, "figure"), make("a", 0, 2, "figure", "small"), False),
            (make("ab", 0, 1, "figure"), make("a", 0, 2, "figure"), False),
            (make("ab", 0, 1, "figure", "great"), make("a", 0, 2, "figure", "small"), False),
            (make("a", 0, 2, "figure", "small"), make("ab", 0, 1, "figure"), False),
            (make("a", 0, 1, "figure"), make("b", 0, 1, "figure"), False),
            (make("a", 1, 2, "small"), make("a", 0, 3, "small"), True), (make("a", 0, 3, "small"), make("a", 1, 3, "small"), False),
            (make("a", 1, 3, "small"), make("a", 1, 2, "small"), False), (make("", 1, 1, "figure"), make("0", 0, 9, "figure"), False),
        ):
            self.told(within, words_within, one, other)
            text = self.ask(words_parted, one, other)
            self.assertEqual(text is None, within)
            if text is not None:
                self.assertTrue(model_lets(one, text) and not model_lets(other, text))

    def test_far_makes(self):
        for one in FAR_MAKES:
            for other in FAR_MAKES + FEWS:
                text = self.ask(words_parted, one, other)
                self.told(text is None, words_within, one, other)
                if text is not None:
                    self.assertTrue(model_lets(one, text) and not model_lets(other, text))
            self.assertIsNone(words_parted(one, one))
            self.assertIs(words_within(one, make("", 0, 60, *MARKS)), True)
            self.assertIs(words_within(make("", 0, 60, *MARKS), one), one == make("", 0, 60, *MARKS))


class WordsMany(Asking):
    def test_cut_at_its_number(self):
        for words in POOL + [make("", 0, 3, *MARKS), make("q", 2, 5, "figure"), make("", 60, 60, "figure")]:
            many = model_many(words)
            for most in (0, 1, 2, 5, 6, 7, many // 2, many - 1, many, many + 1, many * 3, GREAT):
                if most >= 0:
                    self.told(min(many, most), words_many, words, most)

    def test_by_hand(self):
        for words, most, many in (
            (few("a"), 0, 0), (few("a"), 1, 1), (few("a"), 5, 1), (few("a", "b"), 1, 1), (few(*"abcdef"), 60, 6),
            (make("", 1, 1, "figure"), 60, 10), (make("", 0, 1, "figure"), 60, 11), (make("", 1, 1, "great"), 60, 26),
            (make("", 1, 1, "small"), 60, 26), (make("", 1, 1, "other"), 60, 32), (make("", 1, 1, *MARKS), 99, 94),
            (make("x", 2, 2, "figure"), 1000, 100), (make("x", 0, 2, "figure"), 1000, 111), (make("x", 0, 2, "figure"), 111, 111),
            (make("x", 0, 2, "figure"), 110, 110), (make("x", 1, 2, "figure", "small"), 10 ** 6, 36 + 36 * 36),
        ):
            self.told(many, words_many, words, most)

    def test_very_many(self):
        for words in FAR_MAKES:
            for most in (0, 1, 60, 10 ** 20, GREAT, 10 ** 60 - 1):
                self.told(min(model_many(words), most), words_many, words, most)
        self.told((10 ** 31 - 1) // 9, words_many, make("", 0, 30, "figure"), GREAT)
        self.told(10 ** 30, words_many, make("", 30, 30, "figure"), GREAT)


class WordsTexts(Asking):
    def test_whose_words_they_are(self):
        for words in POOL + FAR_MAKES:
            texts = self.ask(words_texts, words)
            self.assertIs(type(texts), list)
            self.assertEqual(len(set(texts)), len(texts))
            for text in texts:
                self.assertTrue(model_lets(words, text))
            self.assertEqual(model_words(texts), words)
            self.told(words, words_of, texts)

    def test_every_choice_of_marks(self):
        for count in range(1, 5):
            for some in itertools.combinations(MARKS, count):
                for least, most in ((0, 1), (1, 1), (0, 4), (3, 4), (4, 4)):
                    for head in ("", "h", "0A"):
                        texts = words_texts(make(head, least, most, *some))
                        self.assertEqual(len(set(texts)), len(texts))
                        self.assertEqual(model_words(texts), make(head, least, most, *some))

    def test_of_few_just_these(self):
        for words in FEWS:
            self.assertEqual(sorted(self.ask(words_texts, words)), list(words[1]))


class WordsSome(Asking):
    def hold(self, words, many):
        texts = self.ask(words_some, words, many)
        self.assertIs(type(texts), list)
        self.assertEqual(len(texts), many)
        self.assertEqual(len(set(texts)), many)
        for text in texts:
            self.assertTrue(model_lets(words, text), f"{words} {text!r}")

    def test_as_many_as_there_are_and_one_more(self):
        for words in FEWS + MAKES[::4] + [make("", 1, 1, "figure"), make("x", 0, 1, "figure"), make("", 0, 1, "other"),
                                          make("x" * 59, 1, 1, "figure"), make("x" * 59, 0, 1, "small")]:
            many = model_many(words)
            for asked in (0, 1, 2, 6, 7, 10, 11, 26, 27, 60, many - 1, many, many + 1):
                if asked > 200:
                    continue
                if asked > many:
                    self.refused(NoValue, words_some, words, asked)
                else:
                    self.hold(words, asked)

    def test_by_hand(self):
        self.told([], words_some, few("a"), 0)
        self.told(["a"], words_some, few("a"), 1)
        self.refused(NoValue, words_some, few("a"), 2)
        self.told([], words_some, make("", 1, 1, "figure"), 0)
        self.assertEqual(sorted(words_some(make("", 1, 1, "figure"), 10)), list("0123456789"))
        self.refused(NoValue, words_some, make("", 1, 1, "figure"), 11)
        self.assertEqual(sorted(words_some(make("x", 0, 1, "figure"), 11)), ["x"] + ["x" + sign for sign in "0123456789"])
        self.refused(NoValue, words_some, make("x", 0, 1, "figure"), 12)
        self.refused(NoValue, words_some, few(*"abcdef"), 7)
        self.refused(NoValue, words_some, few(*"abcdef"), 60)
        self.assertEqual(sorted(words_some(few(*"abcdef"), 6)), list("abcdef"))

    def test_of_very_many(self):
        for words in FAR_MAKES:
            for asked in (0, 1, 10, 11, 27, 59, 60):
                if asked <= model_many(words):
                    self.hold(words, asked)
                else:
                    self.refused(NoValue, words_some, words, asked)

    def test_more_than_sixty(self):
        for words in (make("", 0, 60, *MARKS), make("n", 1, 3, "figure"), make("", 0, 2, "small"), make("", 60, 60, "figure")):
            for asked in (61, 100, 300, 500):
                self.hold(words, asked)


class ByName(unittest.TestCase):
    def test_arguments_have_the_interface_s_names(self):
        self.assertEqual(marks_of(text="a"), ("small",))
        self.assertIs(is_words(thing=few("a")), True)
        self.assertEqual(words_of(texts=["a"]), few("a"))
        self.assertIs(words_let(words=few("a"), text="b"), False)
        self.assertIs(words_within(one=few("a"), other=few("a", "b")), True)
        self.assertEqual(words_joined(one=few("a"), other=few("b")), few("a", "b"))
        self.assertEqual(words_met(one=few("a"), other=few("a", "b")), few("a"))
        self.assertEqual(words_parted(one=few("a", "b"), other=few("a")), "b")
        self.assertEqual(words_many(words=few("a", "b"), most=1), 1)
        self.assertEqual(words_texts(words=few("a")), ["a"])
        self.assertEqual(words_some(words=few("a"), many=1), ["a"])


if __name__ == "__main__":
    unittest.main()
