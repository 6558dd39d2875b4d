"""Points 2, 3, 4, 15 and 16: what a form lets by, and a value's first fault."""

import itertools
import unittest

from leastform.forms import is_form
from leastform.letting import fault, lets
from tests.helper import (
    FORMS, NO, NUMBERS, SMALLS, Asking, few, lists, make, may, model_kind, model_lets, model_part, model_told, must, record,
    table, thrown_row,
)

GREAT = 10 ** 59
ONE_OF_EACH = [None, True, 4, "a", [], {}]
TWO = record(1, 2, must("a", NUMBERS), may("c", NO))
FIGURES = make("", 1, 1, "figure")
WORDS = {"kind", "truth", "number", "text", "short", "long", "lacks", "strange", "few", "many"}


def some_values():
    values = ONE_OF_EACH + [False, 0, 1, 2, 3, 9, -1, GREAT, -GREAT, "", "b", "ab", "abc", "id-", "id-12", "id-1234", "0"]
    values += [[None], [0, 8], [0, 1], [[]], [[None], []], [[], [], []], [True], [None] * 12, ["a"] * 12, [None] * 61]
    values += [{"a": None}, {"b": None}, {"a": 4}, {"a": 4, "b": None}, {"a": None, "b": []}, {"": [None]}, {"a": {"a": {}}}]
    values += [dict.fromkeys("abcdefgh", 2), dict.fromkeys("abcdefghi", 2), dict.fromkeys("abcdefgh", 3), dict.fromkeys("0123456789", 0)]
    values += [{"a": {}, "a0": {}}, {"a": {"b": None}}, {"zz": {"yy": None}, "x": {"w": None}}, dict.fromkeys("abcdefghijkl", None)]
    return values


class Lets(Asking):
    def hold(self, form, let, not_let):
        self.assertIs(is_form(form), True, form)
        for value in let:
            self.told(True, lets, form, value)
            self.told(None, fault, form, value)
        for value in not_let:
            self.told(False, lets, form, value)
            self.assertIsNotNone(self.ask(fault, form, value), f"{form} {value!r}")

    def test_none_by_the_form_without_parts(self):
        self.hold((), [], some_values())

    def test_each_kind_by_its_own_part_alone(self):
        parts = [NO, ("truths", (False, True)), NUMBERS, ("texts", SMALLS), lists(0, 0), record(0, 0)]
        for one, part in enumerate(parts):
            for other, value in enumerate(ONE_OF_EACH):
                self.told(one == other, lets, (part,), value)
                self.told(one != other, lets, tuple(parts[:one] + parts[one + 1:]), value)
            self.told(True, lets, tuple(parts), ONE_OF_EACH[one])

    def test_truths_and_numbers_are_not_the_same(self):
        self.hold((("truths", (True,)),), [True], [False, 1, 0])
        self.hold((("truths", (False,)),), [False], [True, 1, 0])
        self.hold((("truths", (False, True)),), [False, True], [0, 1, 2])
        self.hold((("numbers", 0, 1, 1),), [0, 1], [False, True, 2, -1])
        self.hold((lists(0, 1, ("numbers", 0, 1, 1)),), [[], [1], [0]], [[True], [False], [2]])
        self.hold((record(1, 1, must("a", ("truths", (True,)))),), [{"a": True}], [{"a": 1}, {"a": False}])

    def test_numbers(self):
        self.hold((NUMBERS,), [0, 2, 4, 6, 8], [-2, -1, 1, 7, 9, 10])
        self.hold((("numbers", 3, 3, 0),), [3], [2, 4, -3])
        self.hold((("numbers", -GREAT, GREAT, GREAT),), [-GREAT, 0, GREAT], [1, GREAT - 1, 2 * GREAT])
        self.hold((("numbers", 1, GREAT * 3 + 1, 3),), [1, 4, GREAT * 3 + 1, 3 * 10 ** 40 + 1], [3 * 10 ** 40, GREAT * 3 + 4, -2])

    def test_texts(self):
        self.hold((("texts", few("", "b")),), ["", "b"], ["a", "bb", " "])
        self.hold((("texts", make("id-", 1, 2, "figure")),), ["id-0", "id-12"], ["id-", "id-123", "id-a", "ID-1", "", "1"])
        self.hold((("texts", make("", 0, 60, "figure", "great", "other", "small")),), ["", "x" * 60, "~ 0Aa"], ["x" * 61])

    def test_lists(self):
        self.hold((lists(0, 0),), [[]], [[None], [[]]])
        self.hold((lists(1, 2, NO, NUMBERS),), [[2], [None, 2], [2, 2]], [[], [1], [2, 1], [1, 2], [2, 2, 2], [True], [[]]])
        self.hold((lists(0, 2, lists(1, 1, NO)),), [[], [[None]], [[None], [None]]], [[[]], [None], [[None], []], [[None, None]]])

    def test_records(self):
        self.hold((record(0, 0),), [{}], [{"a": None}, {"": None}])
        self.hold((TWO,), [{"a": 2}, {"a": 2, "c": None}, {"c": None, "a": 8}],
                  [{}, {"c": None}, {"a": 1}, {"a": 2, "c": 2}, {"a": 2, "b": 2}, {"a": 2, "b": None, "c": None}, {"c": 2, "a": None}])
        self.hold((record(1, 2, may("a", NO), may("b", NO), may("c", NO)),),
                  [{"a": None}, {"b": None}, {"a": None, "c": None}], [{}, {"a": None, "b": None, "c": None}, {"a": 1}])
        self.hold((record(2, 2, must("a", NO), may("b", NO), may("c", NO)),),
                  [{"a": None, "b": None}, {"c": None, "a": None}], [{"a": None}, {"b": None, "c": None}, dict.fromkeys("abc")])
        eight = (record(8, 8, *[must(name, NUMBERS) for name in "abcdefgh"]),)
        self.hold(eight, [dict.fromkeys("abcdefgh", 2), dict.fromkeys("hgfedcba", 0)],
                  [dict.fromkeys("abcdefg", 2), dict.fromkeys("abcdefghi", 2), dict.fromkeys("abcdefgi", 2), dict.fromkeys("abcdefgh", 1)])

    def test_tables(self):
        self.hold((table(1, 2, FIGURES, NO),), [{"0": None}, {"9": None, "1": None}],
                  [{}, {"0": 1}, {"a": None}, {"0": None, "10": None}, dict.fromkeys("012"), {"": None}, {"0": None, "1": 1}])
        self.hold((table(0, 60, make("n", 0, 3, "figure"), NUMBERS, lists(0, 0)),),
                  [{}, {"n": 2, "n1": []}, {f"n{place}": 2 for place in range(60)}],
                  [{f"n{place}": 2 for place in range(61)}, {"n": 1}, {"m": 2}, {"n": 2, "n1": [2]}, {"n1234": 2}])

    def test_all_of_a_pool(self):
        values = some_values() + [value for seed in range(12) for value in thrown_row(seed, 10)]
        forms = FORMS + [model_told(thrown_row(seed, 3)) for seed in range(12)]
        for form in forms:
            for value in values:
                expected = model_lets(form, value)
                self.assertIs(lets(form, value), expected, f"{form} {value!r}")
                self.assertIs(fault(form, value) is None, expected, f"{form} {value!r}")


class Fault(Asking):
    def hold(self, path, word, value, *parts):
        self.assertIs(is_form(parts), True, parts)
        self.told((path, word), fault, parts, value)
        self.told(False, lets, parts, value)

    def test_kind(self):
        for value in some_values():
            self.hold((), "kind", value)
        parts = [NO, ("truths", (False, True)), NUMBERS, ("texts", SMALLS), lists(0, 0), record(0, 0)]
        for one, value in enumerate(ONE_OF_EACH):
            self.hold((), "kind", value, *parts[:one], *parts[one + 1:])
        self.hold((), "kind", True, ("numbers", 0, 1, 1))
        self.hold((), "kind", 1, ("truths", (False, True)))

    def test_leaves(self):
        self.hold((), "truth", True, ("truths", (False,)))
        self.hold((), "truth", False, NO, ("truths", (True,)), NUMBERS)
        self.hold((), "number", 1, NUMBERS)
        self.hold((), "number", GREAT, ("truths", (True,)), NUMBERS)
        self.hold((), "number", 10, NUMBERS)
        self.hold((), "text", "", ("texts", SMALLS))
        self.hold((), "text", "c", ("texts", few("a", "b")), lists(0, 0))

    def test_short_and_long(self):
        part = lists(2, 3, NUMBERS)
        self.hold((), "short", [], part)
        self.hold((), "short", [2], part)
        self.hold((), "short", [1], part)
        self.hold((), "short", [None], part)
        self.hold((), "long", [2, 2, 2, 2], part)
        self.hold((), "long", [1, None, "", [], 2], part)
        self.hold((), "long", [None], lists(0, 0))
        self.told(None, fault, (part,), [2, 2])
        self.told(None, fault, (part,), [2, 2, 2])

    def test_items(self):
        part = lists(2, 3, NUMBERS, lists(1, 1, NO))
        self.hold((0,), "number", [1, 2], part)
        self.hold((1,), "number", [2, 1], part)
        self.hold((0,), "number", [1, 3, None], part)
        self.hold((1,), "kind", [2, None, 1], part)
        self.hold((2,), "short", [2, 2, []], part)
        self.hold((1,), "long", [[None], [None, None], []], part)
        self.hold((1, 0), "kind", [[None], [2], 1], part)

    def test_lacks(self):
        self.hold((), "lacks", {}, TWO)
        self.hold((), "lacks", {"c": None}, TWO)
        self.hold((), "lacks", {"c": 1}, TWO)
        self.hold((), "lacks", {"b": 1}, TWO)
        self.hold((), "lacks", {"b": 1, "c": None, "d": 1}, TWO)
        self.hold((), "lacks", {"b": None}, record(2, 2, must("a", NO), must("b", NO)))
        self.hold((), "lacks", {"a": None}, record(2, 2, must("a", NO), must("b", NO)))
        self.hold((), "lacks", {"A": 1, "z": 2}, record(2, 3, must("a", NO), must("b", NO), may("c", NO)))

    def test_strange(self):
        self.hold(("b",), "strange", {"a": 2, "b": 2}, TWO)
        self.hold(("b",), "strange", {"d": 2, "b": 2, "a": 1, "c": 5}, TWO)
        self.hold(("",), "strange", {"a": 2, "": 2, "z": 2}, TWO)
        self.hold(("B",), "strange", {"a": 2, "b": 2, "B": 2}, TWO)
        self.hold(("x",), "strange", {"x": None}, record(0, 0))
        self.hold(("b",), "strange", {"b": 1}, record(2, 2, may("a", NO), may("c", NO), may("d", NO)))
        self.hold(("b",), "strange", {"b": 1, "a": 1}, record(1, 1, may("a", NO), may("c", NO)))
        self.hold(("",), "strange", {"": None}, table(1, 2, FIGURES, NO))
        self.hold(("10",), "strange", {"2": 1, "10": None, "1": 2, "x": 5}, table(1, 2, FIGURES, NO))
        self.hold(("x",), "strange", {"x": None}, table(2, 2, FIGURES, NO))
        self.hold(("x",), "strange", {"x": None, "1": 1, "2": 1}, table(1, 2, FIGURES, NO))

    def test_few_and_many(self):
        part = record(2, 3, must("a", NO), may("b", NO), may("c", NO), may("d", NO))
        self.hold((), "few", {"a": None}, part)
        self.hold((), "few", {"a": 1}, part)
        self.hold((), "many", dict.fromkeys("abcd"), part)
        self.hold((), "many", dict.fromkeys("abcd", 1), part)
        self.told(None, fault, (part,), dict.fromkeys("ab"))
        self.told(None, fault, (part,), dict.fromkeys("acd"))
        self.hold((), "few", {}, record(1, 1, may("a", NO), may("b", NO)))
        self.hold((), "many", {"a": 1, "b": 1}, record(1, 1, may("a", NO), may("b", NO)))
        part = table(2, 3, FIGURES, NO)
        self.hold((), "few", {}, part)
        self.hold((), "few", {"1": None}, part)
        self.hold((), "few", {"1": 1}, part)
        self.hold((), "many", dict.fromkeys("1234"), part)
        self.hold((), "many", dict.fromkeys("1234", 1), part)

    def test_what_names_lead_to(self):
        part = record(2, 3, must("a", NUMBERS), may("b", NO), must("c", lists(1, 1, NO)))
        self.hold(("a",), "number", {"c": [None], "a": 1}, part)
        self.hold(("c",), "short", {"c": [], "a": 2}, part)
        self.hold(("a",), "number", {"c": [], "b": 1, "a": 1}, part)
        self.hold(("b",), "kind", {"c": [], "b": 1, "a": 2}, part)
        self.hold(("c", 0), "kind", {"c": [1], "b": None, "a": 2}, part)
        part = table(1, 3, FIGURES, NUMBERS, lists(1, 1, NO))
        self.hold(("1",), "number", {"2": None, "1": 1}, part)
        self.hold(("2",), "kind", {"2": None, "1": 2}, part)
        self.hold(("0", 0), "kind", {"3": 1, "0": [2], "1": 2}, part)

    def test_steps_ahead_of_the_path(self):
        inner = record(1, 1, must("x", lists(0, 1, table(1, 1, FIGURES, lists(0, 2, NUMBERS)))))
        part = lists(0, 3, inner)
        self.hold((1, "x", 0, "7", 1), "number", [{"x": []}, {"x": [{"7": [2, 1]}]}, 1], part)
        self.hold((1, "x", 0, "7", 1), "kind", [{"x": []}, {"x": [{"7": [2, "a"]}]}], part)
        self.hold((1, "x", 0, "7"), "long", [{"x": []}, {"x": [{"7": [2, 1, 1]}]}], part)
        self.hold((1, "x", 0, "a"), "strange", [{"x": []}, {"x": [{"7": [2, 1, 1], "a": 1}]}], part)
        self.hold((1, "x", 0), "few", [{"x": []}, {"x": [{}]}], part)
        self.hold((1, "x", 0), "many", [{"x": []}, {"x": [{"1": [1], "2": [1]}]}], part)
        self.hold((1, "x"), "long", [{"x": []}, {"x": [1, 2]}], part)
        self.hold((1, "y"), "strange", [{"x": []}, {"x": [1, 2], "y": 1}], part)
        self.hold((1,), "lacks", [{"x": []}, {"y": 1}], part)
        self.hold((0, "x"), "kind", [{"x": None}, {"y": 1}], part)
        self.hold((), "long", [{"x": None}, {"y": 1}, 1, 1], part)

    def test_two_faults_of_a_record_at_once(self):
        # Must be there: a; may: c, d, e; two or three names.
        part = record(2, 3, must("a", NO), may("c", NO), may("d", NO), may("e", NO))
        for names, path, word in (
            ("b", (), "lacks"), ("", (), "lacks"), ("cde", (), "lacks"), ("bcde", (), "lacks"), ("acdeb", ("b",), "strange"),
            ("acdez", ("z",), "strange"), ("acde", (), "many"), ("a", (), "few"), ("ab", ("b",), "strange"), ("az", ("z",), "strange"),
        ):
            self.hold(path, word, dict.fromkeys(names, 1), part)
            self.hold(path, word, dict.fromkeys(names), part)

    def test_the_order_of_a_dict_s_names_says_nothing(self):
        part = record(1, 3, may("b", NO), may("c", NO), may("d", NUMBERS), may("e", NO))
        for pairs, expected in (
            ([("b", 1), ("c", 1), ("d", 1)], (("b",), "kind")), ([("b", None), ("c", 1), ("d", 1)], (("c",), "kind")),
            ([("d", 1), ("e", 1)], (("d",), "number")), ([("b", 1), ("f", 1), ("a", 1)], (("a",), "strange")),
            ([("b", None), ("c", None), ("d", 2)], None),
        ):
            for row in itertools.permutations(pairs):
                self.told(expected, fault, (part,), dict(row))
        for row in itertools.permutations([("1", 1), ("2", None), ("3", 1)]):
            self.told((("1",), "kind"), fault, (table(1, 3, FIGURES, NO),), dict(row))

    def test_of_a_pool(self):
        values = some_values() + [value for seed in range(8) for value in thrown_row(seed, 8)]
        found = set()
        for form in FORMS + [model_told(thrown_row(seed, 3)) for seed in range(8)]:
            for value in values:
                answer = fault(form, value)
                if answer is None:
                    continue
                found.add(answer[1])
                self.assertIs(type(answer), tuple)
                self.assertEqual([type(part) for part in answer], [tuple, str])
                self.stands(form, value, answer[0], answer[1])
        self.assertEqual(found, WORDS)

    def stands(self, form, value, path, word):
        """What the word says holds there, whatever else holds."""
        part = model_part(form, model_kind(value))
        if path and word == "strange" and len(path) == 1 and is_strange(part, value, path[0]):
            return
        if path:
            self.assertTrue(part[1] <= len(value) <= part[2])
            inner = {name: form for name, _, form in part[3]}[path[0]] if part[0] == "record" else part[-1]
            self.stands(inner, value[path[0]], path[1:], word)
            return
        self.assertTrue(own_word_holds(part, value, word), f"{form} {value!r} {word}")


def is_strange(part, value, name):
    if part[0] == "record":
        return name in value and name not in [field[0] for field in part[3]]
    return part[0] == "table" and name in value and not model_lets((("texts", part[3]),), name)


def own_word_holds(part, value, word):
    if part is None or word == "kind":
        return part is None and word == "kind"
    if word in ("truth", "number", "text"):
        return part[0] == word + "s" and not model_lets((part,), value)
    if word in ("short", "few"):
        return (part[0] == "lists") == (word == "short") and len(value) < part[1]
    if word in ("long", "many"):
        return (part[0] == "lists") == (word == "long") and len(value) > part[2]
    return word == "lacks" and part[0] == "record" and any(field[1] and field[0] not in value for field in part[3])


class Bounds(Asking):
    def test_very_many_numbers_and_texts(self):
        every = make("", 0, 60, "figure", "great", "other", "small")
        form = (("numbers", -10 ** 60 + 1, 10 ** 60 - 1, 1), ("texts", every), table(0, 60, every, ("numbers", 0, 10 ** 60 - 1, 1)))
        for value, expected in ((10 ** 59, None), (10 ** 60, ((), "number")), ("x" * 60, None), ("x" * 61, ((), "text")),
                                ({"x" * 60: 7}, None), ({"x" * 61: 7}, (("x" * 61,), "strange")), ({"": -1}, (("",), "number"))):
            self.told(expected, fault, form, value)

    def test_eight_deep(self):
        value, part = 1, NUMBERS
        for turn in range(7):
            value = [value] if turn % 2 else {"a": value}
            part = lists(0, 1, part) if turn % 2 else record(1, 1, must("a", part))
        self.told((("a", 0, "a", 0, "a", 0, "a"), "number"), fault, (part,), value)

    def test_five_hundred_parts(self):
        value = [{"a": 2, "b": [None]} for _ in range(124)]
        part = lists(0, 200, record(2, 2, must("a", NUMBERS), must("b", lists(1, 1, NO))))
        self.told(None, fault, (part,), value)
        value[-1]["b"][0] = 0
        self.told(((123, "b", 0), "kind"), fault, (part,), value)


class ByName(unittest.TestCase):
    def test_arguments_have_the_interface_s_names(self):
        self.assertIs(lets(form=(NO,), value=None), True)
        self.assertEqual(fault(form=(NO,), value=1), ((), "kind"))


if __name__ == "__main__":
    unittest.main()
