"""Points 2 to 5 and 17 to 19: the form of a value, forms joined, the form told of a row of samples."""

import itertools
import unittest

from leastform.forms import is_form
from leastform.joining import form_of, joined, told
from tests.helper import (
    FORMS, NO, NUMBERS, SMALLS, Asking, few, lists, make, may, model_lets, model_told, model_within, must, record, spoil,
    table, thrown_row,
)

GREAT = 10 ** 59
ONE = ("numbers", 1, 1, 0)
TWO = ("numbers", 2, 2, 0)
BOTH = ("numbers", 1, 2, 1)


def text(*texts):
    return ("texts", few(*texts))


def rows():
    """Rows of samples of all sorts, made anew."""
    return [thrown_row(seed, 1 + seed % 12, 2 + seed % 3) for seed in range(60)]


class FormOf(Asking):
    def hold(self, part, value):
        self.assertIs(is_form((part,)), True, part)
        self.told((part,), form_of, value)

    def test_leaves(self):
        self.hold(NO, None)
        self.hold(("truths", (True,)), True)
        self.hold(("truths", (False,)), False)
        for number in (0, 1, -1, 7, GREAT, -GREAT):
            self.hold(("numbers", number, number, 0), number)
        for one in ("", "a", "x" * 60, "\"", "a b"):
            self.hold(text(one), one)

    def test_lists(self):
        self.hold(lists(0, 0), [])
        self.hold(lists(1, 1, NO), [None])
        self.hold(lists(2, 2, NO), [None, None])
        self.hold(lists(3, 3, ("numbers", -2, 8, 5)), [3, 8, -2])
        self.hold(lists(2, 2, ("truths", (True,)), ONE), [1, True])
        self.hold(lists(2, 2, ("truths", (False,)), ("numbers", 0, 0, 0)), [False, 0])
        self.hold(lists(2, 2, ("truths", (False, True))), [True, False])
        self.hold(lists(7, 7, ("texts", make("", 1, 1, "small"))), list("gfedcba"))
        self.hold(lists(6, 6, text(*"abcdef")), list("fedcba"))
        self.hold(lists(6, 6, NO, ("truths", (True,)), ONE, text("a"), lists(0, 0), record(0, 0)), [{}, [], "a", 1, True, None])
        self.hold(lists(1, 1, lists(0, 0)), [[]])
        self.hold(lists(3, 3, lists(0, 2, ONE, text("a"))), [[], [1, "a"], [1]])
        self.hold(lists(2, 2, record(1, 1, may("a", ONE), may("b", TWO))), [{"a": 1}, {"b": 2}])

    def test_dicts(self):
        self.hold(record(0, 0), {})
        self.hold(record(1, 1, must("a", ONE)), {"a": 1})
        self.hold(record(1, 1, must("", lists(0, 0))), {"": []})
        self.hold(record(3, 3, must("A", NO), must("a", ONE), must("b", record(0, 0))), {"b": {}, "A": None, "a": 1})
        self.hold(record(1, 1, must("a", record(1, 1, must("a", ONE)))), {"a": {"a": 1}})

    def test_eight_names_and_nine(self):
        values = {name: place * 3 for place, name in enumerate("abcdefgh")}
        self.hold(record(8, 8, *[must(name, ("numbers", place * 3, place * 3, 0)) for place, name in enumerate("abcdefgh")]), values)
        values["i"] = 24
        self.hold(table(9, 9, make("", 1, 1, "small"), ("numbers", 0, 24, 3)), values)
        values["i"] = None
        self.hold(table(9, 9, make("", 1, 1, "small"), NO, ("numbers", 0, 21, 3)), values)
        names = {f"id-{place}": [] for place in range(8)}
        self.hold(record(8, 8, *[must(name, lists(0, 0)) for name in sorted(names)]), names)
        names["id-100"] = [1]
        self.hold(table(9, 9, make("id-", 1, 3, "figure"), lists(0, 1, ONE)), names)
        names["id-"] = {}
        self.hold(table(10, 10, make("id-", 0, 3, "figure"), lists(0, 1, ONE), record(0, 0)), names)

    def test_the_order_of_a_dict_s_names_says_nothing(self):
        for row in itertools.permutations([("a", 1), ("b", None), ("c", "x"), ("d", [])]):
            self.hold(record(4, 4, must("a", ONE), must("b", NO), must("c", text("x")), must("d", lists(0, 0))), dict(row))

    def test_by_the_model_and_lets_it_by(self):
        for row in rows():
            for value in row:
                form = self.ask(form_of, value)
                self.assertEqual(form, model_told([value]))
                self.assertIs(is_form(form), True)
                self.assertTrue(model_lets(form, value))
                for other in FORMS:
                    self.assertEqual(model_lets(other, value), model_within(form, other))

    def test_at_the_bounds(self):
        value = 1
        part = ONE
        for _ in range(7):
            value = [value]
            part = lists(1, 1, part)
        self.hold(part, value)
        self.hold(lists(499, 499, ("numbers", 0, 498 * 7, 7)), [place * 7 for place in range(499)])
        self.hold(lists(499, 499, ("texts", make("n", 1, 3, "figure"))), [f"n{place}" for place in range(499)])
        wide = {f"n{place}": GREAT * 9 - place for place in range(499)}
        self.hold(table(499, 499, make("n", 1, 3, "figure"), ("numbers", GREAT * 9 - 498, GREAT * 9, 1)), wide)


class Joined(Asking):
    def hold(self, whole, one, other):
        """Forms of one part each, or of several in a list."""
        forms = [tuple(parts) if isinstance(parts, list) else (parts,) for parts in (whole, one, other)]
        for form in forms:
            self.assertIs(is_form(form), True, form)
        self.told(forms[0], joined, forms[1], forms[2])
        self.told(forms[0], joined, forms[2], forms[1])
        for form in forms:
            self.told(forms[0], joined, forms[0], form)
            self.told(form, joined, form, form)
            self.told(form, joined, form, ())
            self.told(form, joined, (), form)

    def test_of_none(self):
        self.told((), joined, (), ())

    def test_a_kind_in_one_alone(self):
        parts = [NO, ("truths", (True,)), NUMBERS, ("texts", SMALLS), lists(0, 2, NO), record(1, 1, must("a", NO))]
        for row in (parts, parts[:-1] + [table(0, 1, SMALLS, NO)]):
            for bits in range(2 ** 6):
                mine = [part for place, part in enumerate(row) if bits >> place & 1]
                rest = [part for place, part in enumerate(row) if not bits >> place & 1]
                self.hold(row, mine, rest)

    def test_leaves(self):
        self.hold(NO, NO, NO)
        self.hold(("truths", (False, True)), ("truths", (True,)), ("truths", (False,)))
        self.hold(("truths", (True,)), ("truths", (True,)), ("truths", (True,)))
        self.hold(("truths", (False, True)), ("truths", (False, True)), ("truths", (False,)))
        self.hold(BOTH, ONE, TWO)
        self.hold(("numbers", 0, 18, 2), ("numbers", 0, 8, 4), ("numbers", 6, 18, 6))
        self.hold(("numbers", -GREAT, GREAT, GREAT), ("numbers", 0, 0, 0), ("numbers", -GREAT, GREAT, 2 * GREAT))
        self.hold(text("a", "b"), text("a"), text("b"))
        self.hold(text(*"abcdef"), text(*"abcd"), text(*"bdef"))
        self.hold(("texts", make("", 1, 1, "small")), text(*"abcd"), text("e", "f", "g"))
        self.hold(("texts", make("id-", 0, 2, "figure")), ("texts", make("id-", 1, 2, "figure")), text("id-"))
        self.hold(("texts", make("i", 2, 4, "figure", "other", "small")), ("texts", make("id-", 1, 2, "figure")), text("i0a"))

    def test_lists(self):
        self.hold(lists(0, 0), lists(0, 0), lists(0, 0))
        self.hold(lists(0, 3, NO), lists(0, 0), lists(2, 3, NO))
        self.hold(lists(1, 4, NO, BOTH), lists(1, 2, ONE), lists(3, 4, NO, TWO))
        self.hold(lists(1, 4, BOTH), lists(1, 4, ONE), lists(2, 3, TWO))
        self.hold(lists(1, 2, lists(0, 2, BOTH)), lists(1, 1, lists(0, 1, ONE)), lists(2, 2, lists(2, 2, TWO)))
        self.hold(lists(1, 2, lists(0, 0), record(0, 0)), lists(1, 1, lists(0, 0)), lists(2, 2, record(0, 0)))

    def test_records(self):
        self.hold(record(0, 0), record(0, 0), record(0, 0))
        self.hold(record(0, 1, may("a", ONE)), record(0, 0), record(1, 1, must("a", ONE)))
        self.hold(record(1, 1, must("a", BOTH)), record(1, 1, must("a", ONE)), record(1, 1, must("a", TWO)))
        self.hold(record(1, 1, may("a", ONE), may("b", TWO)), record(1, 1, must("a", ONE)), record(1, 1, must("b", TWO)))
        self.hold(record(2, 2, may("a", ONE), must("b", NO, BOTH), may("c", NO)),
                  record(2, 2, must("a", ONE), must("b", TWO)), record(2, 2, must("b", NO, ONE), must("c", NO)))
        self.hold(record(0, 2, may("a", BOTH), may("b", NO)), record(0, 1, may("a", ONE)), record(2, 2, must("a", TWO), must("b", NO)))
        self.hold(record(1, 2, must("a", BOTH), may("b", NO)), record(1, 2, must("a", ONE), may("b", NO)), record(1, 1, must("a", TWO)))
        self.hold(record(1, 2, may("a", ONE), may("b", ONE), may("c", TWO)),
                  record(1, 1, may("a", ONE), may("b", ONE)), record(1, 2, must("b", ONE), may("c", TWO)))
        self.hold(record(1, 1, must("x", record(0, 1, may("a", ONE)))), record(1, 1, must("x", record(0, 0))),
                  record(1, 1, must("x", record(1, 1, must("a", ONE)))))

    def test_records_of_eight_names_in_all_and_of_nine(self):
        first = record(5, 5, *[must(name, ONE) for name in "abcde"])
        self.hold(record(4, 5, *[may(name, ONE) for name in "abcd"], must("e", BOTH), *[may(name, TWO) for name in "fgh"]),
                  first, record(4, 4, *[must(name, TWO) for name in "efgh"]))
        self.hold(table(4, 5, make("", 1, 1, "small"), BOTH), first, record(4, 4, *[must(name, TWO) for name in "fghi"]))
        self.hold(table(0, 5, make("", 0, 2, "figure", "small"), NO, BOTH), first,
                  record(0, 4, may("", NO), may("a", ONE), may("a0", TWO), *[may(name, ONE) for name in "ghi"]))
        eight = record(8, 8, *[must("n" + name, ONE) for name in "abcdefgh"])
        self.hold(eight, eight, eight)
        self.hold(record(0, 8, *[may("n" + name, ONE) for name in "abcdefgh"]), eight, record(0, 0))
        self.hold(record(1, 8, may("na", BOTH), *[may("n" + name, ONE) for name in "bcdefgh"]), eight,
                  record(1, 1, may("na", TWO), may("nb", ONE)))
        self.hold(table(1, 8, make("n", 1, 1, "small"), ONE, text("x")), eight, record(1, 1, must("ni", text("x"))))
        self.hold(table(1, 8, make("n", 0, 1, "small"), ONE), eight, record(1, 1, must("n", ONE)))
        self.hold(table(1, 8, make("", 0, 2, "small"), ONE), eight, record(1, 1, must("", ONE)))
        self.hold(table(2, 8, make("n", 1, 2, "figure", "small"), BOTH, lists(0, 1, NO)), eight,
                  record(2, 2, must("na", TWO, lists(0, 0)), must("nx0", lists(1, 1, NO))))

    def test_a_record_and_a_table(self):
        one = table(2, 9, make("n", 1, 2, "figure"), ONE)
        self.hold(table(1, 9, make("n", 1, 2, "figure"), BOTH), one, record(1, 1, must("n5", TWO)))
        self.hold(table(1, 9, make("n", 0, 2, "figure"), NO, ONE), one, record(1, 2, must("n", NO), may("n1", ONE)))
        self.hold(table(1, 9, make("", 1, 3, "figure", "great", "small"), ONE), one, record(1, 1, must("A", ONE)))
        self.hold(table(0, 9, make("n", 1, 2, "figure"), ONE), one, record(0, 0))
        self.hold(table(2, 9, make("n", 1, 2, "figure"), ONE), one, record(3, 3, *[must("n" + name, ONE) for name in "123"]))
        self.hold(table(1, 3, make("n", 1, 2, "figure"), BOTH), table(1, 1, make("n", 1, 2, "figure"), ONE),
                  record(3, 3, *[must("n" + name, TWO) for name in "123"]))
        self.hold(table(2, 9, make("n", 1, 2, "figure"), ONE, lists(0, 1, NO)), one,
                  record(2, 2, must("n1", lists(0, 0)), must("n2", lists(1, 1, NO))))
        self.hold(table(0, 9, make("n", 0, 5, "figure", "other"), ONE), table(0, 9, make("n", 5, 5, "figure", "other"), ONE),
                  record(8, 8, must("n", ONE), *[must(f"n{place}", ONE) for place in range(1, 8)]))

    def test_records_without_fields(self):
        for part in (table(0, 1, SMALLS, NO), table(1, 1, SMALLS, NO), table(9, 9, make("ab", 3, 4, "figure"), BOTH)):
            self.hold(("table", 0) + part[2:], part, record(0, 0))
        self.hold(record(0, 2, may("a", ONE), may("b", TWO)), record(0, 0), record(2, 2, must("a", ONE), must("b", TWO)))

    def test_tables(self):
        one = table(2, 4, make("n", 1, 2, "figure"), ONE)
        self.hold(table(1, 9, make("n", 1, 3, "figure", "small"), BOTH), one, table(1, 9, make("n", 1, 3, "small"), TWO))
        self.hold(table(2, 4, make("", 1, 3, "figure", "small"), NO, ONE), one, table(3, 3, make("", 1, 1, "small"), NO))
        self.hold(table(2, 9, make("n", 1, 2, "figure"), ONE), one, table(9, 9, make("n", 1, 1, "figure"), ONE))
        self.hold(table(2, 4, make("n", 1, 2, "figure"), table(0, 1, make("", 0, 1, "figure", "small"), BOTH)),
                  table(2, 4, make("n", 1, 2, "figure"), table(0, 1, make("", 0, 1, "figure"), ONE)),
                  table(2, 4, make("n", 1, 2, "figure"), table(0, 1, make("", 1, 1, "small"), TWO)))

    def test_several_kinds_in_both(self):
        self.hold([NO, ("truths", (False, True)), BOTH, text("a", "b"), lists(0, 1, NO), record(0, 1, may("a", NO))],
                  [NO, ("truths", (True,)), ONE, text("a"), lists(0, 0), record(0, 0)],
                  [("truths", (False,)), TWO, text("b"), lists(1, 1, NO), record(1, 1, must("a", NO))])

    def test_a_pool_both_ways_about(self):
        for one, other in itertools.product(FORMS, FORMS):
            whole = joined(one, other)
            self.assertIs(is_form(whole), True, f"{one} {other} {whole}")
            self.assertEqual(joined(other, one), whole)
            self.assertTrue(model_within(one, whole) and model_within(other, whole), f"{one} {other} {whole}")
            self.assertEqual(whole == other, model_within(one, other), f"{one} {other}")
            for form in FORMS:
                if model_within(one, form) and model_within(other, form):
                    self.assertTrue(model_within(whole, form), f"{one} {other} {whole} {form}")

    def test_three_of_a_pool(self):
        for one, other, third in itertools.product(FORMS[::2], FORMS[1::2], FORMS[::3]):
            self.assertEqual(joined(joined(one, other), third), joined(one, joined(other, third)))

    def test_asked_of_a_pool(self):
        for one, other in itertools.product(FORMS[::3], FORMS[::4]):
            self.ask(joined, one, other)


class Told(Asking):
    def test_of_none(self):
        self.told((), told, [])

    def test_by_hand(self):
        for samples, form in (
            ([None], (NO,)), ([None, None], (NO,)), ([1, 2, 1], (BOTH,)), ([True, 1], (("truths", (True,)), ONE)),
            ([1, True], (("truths", (True,)), ONE)), ([0, False, None], (NO, ("truths", (False,)), ("numbers", 0, 0, 0))),
            ([[]], (lists(0, 0),)), ([[], [[]]], (lists(0, 1, lists(0, 0)),)), ([[1], [], [2, 2]], (lists(0, 2, BOTH),)),
            ([{}, {"a": 1}], (record(0, 1, may("a", ONE)),)), ([{"a": 1}, {"a": 2}], (record(1, 1, must("a", BOTH)),)),
            ([{"a": 1}, {"b": 2}, {"a": 2, "c": 1}], (record(1, 2, may("a", BOTH), may("b", TWO), may("c", ONE)),)),
            ([{"a": 1, "b": 1}, {"b": 2}], (record(1, 2, may("a", ONE), must("b", BOTH)),)),
            ([{name: 1} for name in "abcdefgh"], (record(1, 1, *[may(name, ONE) for name in "abcdefgh"]),)),
            ([{name: 1} for name in "abcdefghi"], (table(1, 1, make("", 1, 1, "small"), ONE),)),
            ([{}] + [{name: 1} for name in "abcdefghi"], (table(0, 1, make("", 1, 1, "small"), ONE),)),
            ([{"x": {name: 1}} for name in "abcdefghi"], (record(1, 1, must("x", table(1, 1, make("", 1, 1, "small"), ONE))),)),
            (list("abcdef"), (text(*"abcdef"),)), (list("abcdefg"), (("texts", make("", 1, 1, "small")),)),
        ):
            self.assertIs(is_form(form), True, form)
            for row in (samples, samples[::-1], samples + samples, samples[1:] + samples[:1]):
                self.told(form, told, row)

    def test_by_the_model_in_any_order_doubled_and_cut(self):
        for row in rows():
            form = self.ask(told, row)
            self.assertIs(is_form(form), True)
            self.assertEqual(form, model_told(row), row)
            for other in (row[::-1], row[1::2] + row[::2], row + row, row + row[:3], sorted(row, key=repr)):
                self.assertEqual(told(other), form)
            for cut in range(len(row) + 1):
                self.assertEqual(joined(told(row[:cut]), told(row[cut:])), form)
                self.assertEqual(joined(told(row[:cut + 1]), told(row[max(cut - 2, 0):])), form)
            self.assertEqual(joined(told(row[::2]), told(row[1::2])), form)

    def test_all_orders_of_a_few(self):
        samples = [{"a": 1, "b": []}, {name: None for name in "abcdefgh"}, {"a": "x", "k": 2}, {}, [3]]
        form = model_told(samples)
        for row in itertools.permutations(samples):
            self.told(form, told, list(row))

    def test_lets_each_by_and_is_within_each_form_that_does(self):
        forms = FORMS + [told(row) for row in rows()]
        for row in rows():
            form = told(row)
            self.assertTrue(all(model_lets(form, sample) for sample in row))
            for other in forms:
                self.assertEqual(all(model_lets(other, sample) for sample in row), model_within(form, other), f"{row} {other}")

    def test_a_sample_let_by_changes_nothing_and_any_other_does(self):
        samples = [sample for row in rows()[:20] for sample in row]
        seen = set()
        for row in rows()[::2]:
            form = told(row)
            for sample in samples:
                let = model_lets(form, sample)
                seen.add(let)
                self.assertEqual(told(row + [sample]) == form, let, f"{row} {sample}")
                self.assertEqual(told([sample] + row) == form, let, f"{row} {sample}")
        self.assertEqual(seen, {True, False})

    def test_no_form_is_changed_by_what_it_lets_by(self):
        for form in FORMS:
            for sample in [sample for row in rows()[:30] for sample in row]:
                self.assertEqual(joined(form, form_of(sample)) == form, model_lets(form, sample), f"{form} {sample}")

    def test_one_more_by_hand(self):
        row = [{"a": 1, "b": [1, 3]}, {"a": 5}]
        form = told(row)
        self.assertEqual(form, (record(1, 2, must("a", ("numbers", 1, 5, 4)), may("b", lists(2, 2, ("numbers", 1, 3, 2)))),))
        for sample in ({"a": 1}, {"a": 5, "b": [3, 3]}, {"b": [1, 1], "a": 1}):
            self.assertEqual(told(row + [sample]), form)
        for sample in ({}, {"a": 3}, {"a": True}, {"b": [1, 1]}, {"a": 1, "b": [2, 2]}, {"a": 1, "b": [1]}, {"a": 1, "c": 1}, None):
            self.assertNotEqual(told(row + [sample]), form)

    def test_sixty_samples_and_five_hundred_parts(self):
        row = [{"n" + str(place): [place, str(turn)] for place in range(turn % 120)} for turn in range(60)]
        self.assertEqual(told(row), model_told(row))
        self.assertEqual(told(row[::-1]), told(row))

    def test_more_than_sixty(self):
        row = [[place % 7, {"a" * (place % 13): place}] for place in range(400)]
        self.assertEqual(told(row), model_told(row))

    def test_what_is_done_to_samples_changes_nothing_told(self):
        for row, again in zip(rows(), rows()):
            form = told(row)
            kept = repr(form)
            spoil(row)
            self.assertEqual(repr(form), kept)
            self.assertEqual(repr(told(again)), kept)

    def test_a_sample_that_stands_twice(self):
        inner = [1, {"a": []}]
        row = [inner, inner, {"x": inner, "y": inner}]
        before = repr(row)
        self.assertEqual(told(row), model_told(row))
        self.assertEqual(repr(row), before)
        self.assertIs(row[0], inner)


class ByName(unittest.TestCase):
    def test_arguments_have_the_interface_s_names(self):
        self.assertEqual(form_of(value=None), (NO,))
        self.assertEqual(joined(one=(NO,), other=(NUMBERS,)), (NO, NUMBERS))
        self.assertEqual(told(samples=[None]), (NO,))


if __name__ == "__main__":
    unittest.main()
