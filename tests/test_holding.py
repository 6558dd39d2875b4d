"""Points 2 to 5 and 22: forms within one another, and values that part them."""

import itertools
import unittest

from leastform.forms import is_form
from leastform.holding import parted, within
from leastform.joining import form_of, joined, told
from leastform.making import samples_of
from leastform.meeting import met
from leastform.values import parts_in
from tests.helper import (
    FORMS, NO, NUMBERS, SMALLS, Asking, Dice, as_form, boxes, deep_lists, deep_records, few, lists, make, may, model_lets,
    model_within, must, record, table, thrown_form, thrown_forms, thrown_row,
)

GREAT = 10 ** 59
FIGURES = make("", 1, 1, "figure")
TEXTS = ("texts", SMALLS)
ONE = ("numbers", 1, 1, 0)
TWO = ("numbers", 1, 2, 1)


class Holding(Asking):
    def hold(self, is_within, one, other):
        """one and other are forms or single parts."""
        one, other = as_form(one), as_form(other)
        for form in (one, other):
            self.assertIs(is_form(form), True, form)
        self.told(is_within, within, one, other)
        found = self.ask(parted, one, other)
        self.assertIs(type(found), tuple)
        self.assertEqual(len(found), 0 if is_within else 1, f"{one} {other} {found}")
        for value in found:
            self.assertTrue(model_lets(one, value), f"{one} {other} {value}")
            self.assertFalse(model_lets(other, value), f"{one} {other} {value}")
        return found

    def wider(self, one, other):
        """one is within other, but not the other way about; so it is within lists, fields and tables, too."""
        for first, second in ((one, other), (lists(2, 3, *as_form(one)), lists(2, 3, *as_form(other))),
                              (record(1, 2, must("a", *as_form(one)), may("b", NO)), record(1, 2, must("a", *as_form(other)), may("b", NO))),
                              (record(1, 1, may("a", NO), may("b", *as_form(one))), record(1, 1, may("a", NO), may("b", *as_form(other)))),
                              (table(2, 3, SMALLS, *as_form(one)), table(2, 3, SMALLS, *as_form(other))),
                              (record(1, 1, must("a", *as_form(one))), table(0, 3, SMALLS, *as_form(other)))):
            if first != one and as_form(one) == ():
                continue
            self.hold(True, first, second)
            self.hold(False, second, first)

    def apart(self, one, other):
        self.hold(False, one, other)
        self.hold(False, other, one)

    def test_the_form_without_parts_is_within_every_form(self):
        for form in FORMS:
            self.hold(True, (), form)
            self.hold(form == (), form, ())

    def test_a_form_within_itself(self):
        for form in FORMS:
            self.hold(True, form, form)

    def test_a_kind_in_one_alone(self):
        parts = [NO, ("truths", (False, True)), NUMBERS, TEXTS, lists(0, 2, NO), record(1, 1, must("a", NO))]
        for place, part in enumerate(parts):
            rest = tuple(parts[:place] + parts[place + 1:])
            self.hold(False, tuple(parts), rest)
            self.hold(True, rest, tuple(parts))
            self.apart(part, rest)
        self.hold(False, table(9, 9, SMALLS, NO), tuple(parts[:5]))

    def test_truths_and_numbers_are_not_the_same(self):
        self.apart(("truths", (True,)), ONE)
        self.apart(("truths", (False, True)), ("numbers", 0, 1, 1))
        self.apart(lists(1, 1, ("truths", (True,))), lists(1, 1, ONE))

    def test_truths(self):
        self.wider(("truths", (True,)), ("truths", (False, True)))
        self.wider(("truths", (False,)), ("truths", (False, True)))
        self.apart(("truths", (True,)), ("truths", (False,)))

    def test_runs(self):
        self.wider(("numbers", 0, 8, 4), NUMBERS)
        self.wider(("numbers", 2, 8, 2), NUMBERS)
        self.wider(("numbers", 0, 6, 2), NUMBERS)
        self.wider(("numbers", 4, 4, 0), NUMBERS)
        self.wider(("numbers", -GREAT, GREAT, 2), ("numbers", -GREAT, GREAT, 1))
        self.apart(NUMBERS, ("numbers", 0, 9, 3))
        self.apart(("numbers", 1, 9, 2), NUMBERS)
        self.apart(("numbers", 0, 4, 2), ("numbers", 2, 6, 2))
        self.told((9,), parted, (("numbers", 3, 9, 6),), (("numbers", 3, 5, 2),))

    def test_words(self):
        self.wider(("texts", few("a")), ("texts", few("a", "b")))
        self.wider(("texts", few("a", "zz")), TEXTS)
        self.wider(("texts", make("", 2, 2, "small")), TEXTS)
        self.wider(("texts", make("", 1, 1, "small")), TEXTS)
        self.wider(TEXTS, ("texts", make("", 1, 2, "figure", "small")))
        self.wider(("texts", make("id-", 0, 3, "figure")), ("texts", make("id", 0, 4, "figure", "other")))
        self.apart(("texts", few("a")), ("texts", few("b")))
        self.apart(("texts", few("A", "a")), TEXTS)
        self.apart(TEXTS, ("texts", FIGURES))
        self.apart(("texts", make("a", 0, 1, "small")), ("texts", make("b", 0, 1, "small")))

    def test_lists(self):
        self.wider(lists(2, 3, NO), lists(1, 3, NO))
        self.wider(lists(2, 3, NO), lists(2, 4, NO))
        self.wider(lists(2, 3, NO), lists(2, 3, NO, NUMBERS))
        self.wider(lists(0, 0), lists(0, 1, NO))
        self.wider(lists(12, 12, ONE), lists(0, 60, TWO))
        self.apart(lists(2, 3, NO), lists(3, 4, NO))
        self.apart(lists(1, 1, NO), lists(2, 2, NO))
        self.apart(lists(2, 3, NO), lists(1, 4, NUMBERS))
        self.apart(lists(0, 2, NO), lists(0, 2, NUMBERS))
        self.apart(lists(1, 2, NO), lists(0, 0))
        self.hold(False, lists(0, 1, NO), lists(0, 0))
        self.hold(False, lists(0, 0), lists(1, 1, NO))

    def test_records(self):
        two = record(1, 2, must("a", ONE), may("b", ONE))
        self.wider(record(1, 1, must("a", ONE)), two)
        self.wider(record(2, 2, must("a", ONE), must("b", ONE)), two)
        self.wider(two, record(1, 2, must("a", TWO), may("b", ONE)))
        self.wider(two, record(1, 2, must("a", ONE), may("b", NO, ONE)))
        self.wider(two, record(1, 2, may("a", ONE), may("b", ONE)))
        self.wider(two, record(1, 2, must("a", ONE), may("b", ONE), may("c", ONE)))
        self.wider(record(0, 0), record(0, 1, may("a", NO)))
        self.wider(record(2, 3, may("a", NO), may("b", NO), may("c", NO)), record(1, 3, may("a", NO), may("b", NO), may("c", NO)))
        self.wider(record(1, 2, may("a", NO), may("b", NO), may("c", NO)), record(1, 3, may("a", NO), may("b", NO), may("c", NO)))
        self.apart(two, record(1, 2, must("a", ONE), may("c", ONE)))
        self.apart(two, record(1, 2, may("a", ONE), must("b", ONE)))
        self.apart(record(1, 1, must("a", ONE)), record(1, 1, must("b", ONE)))
        self.apart(record(0, 0), record(1, 1, must("a", NO)))
        self.apart(record(1, 1, must("a", ONE)), record(2, 2, must("a", ONE), must("b", ONE)))
        self.apart(record(1, 1, may("a", NO), may("b", NO)), record(2, 2, must("a", NO), must("b", NO)))
        self.apart(record(1, 1, must("a", NO)), record(1, 1, must("a", ONE)))
        self.apart(record(2, 2, may("a", NO), may("b", NO), may("c", NO)), record(1, 1, may("a", NO), may("b", NO), may("c", NO)))
        self.hold(False, record(0, 1, may("a", NO)), record(0, 0))

    def test_each_name_of_eight(self):
        eight = record(8, 8, *[must(name, ONE) for name in "abcdefgh"])
        for place, name in enumerate("abcdefgh"):
            fields = list(eight[3])
            fields[place] = may(name, ONE)
            self.wider(eight, record(7, 8, *fields))
            fields[place] = must(name, TWO)
            self.wider(eight, record(8, 8, *fields))
            fields[place] = must(name, NO)
            self.apart(eight, record(8, 8, *fields))
            self.apart(eight, record(7, 7, *(fields[:place] + fields[place + 1:])))

    def test_a_record_and_a_table(self):
        self.wider(record(1, 2, must("a", ONE), may("zz", ONE)), table(1, 2, SMALLS, TWO))
        self.wider(record(0, 0), table(0, 1, SMALLS, NO))
        self.wider(record(1, 1, must("a", ONE)), table(0, 9, SMALLS, ONE))
        self.apart(record(0, 0), table(1, 1, SMALLS, NO))
        self.apart(record(1, 2, may("A", ONE), must("a", ONE)), table(1, 2, SMALLS, ONE))
        self.apart(record(1, 2, must("a", ONE), may("b", NO)), table(1, 2, SMALLS, ONE))
        self.apart(record(1, 2, must("a", ONE), may("b", ONE)), table(2, 3, SMALLS, ONE))
        self.apart(record(1, 2, must("a", ONE), may("b", ONE)), table(1, 1, SMALLS, ONE))
        self.apart(record(0, 1, may("a", ONE)), table(1, 1, SMALLS, ONE))

    def test_a_table_is_never_within_a_record(self):
        for part in (table(0, 1, FIGURES, NO), table(1, 1, FIGURES, NO), table(1, 2, FIGURES, NO), table(10, 10, FIGURES, NO)):
            self.hold(False, part, record(0, 8, *[may(name, NO, ONE) for name in "01234567"]))
            self.hold(False, part, record(0, 8, *[may(name, NO, ONE) for name in "23456789"]))
            self.hold(False, part, record(1, 2, must("0", NO), may("1", ONE)))
            self.hold(False, part, record(0, 0))
            self.hold(False, part, record(0, 1, may("a", NO)))

    def test_tables(self):
        one = table(2, 4, SMALLS, ONE)
        self.wider(one, table(1, 4, SMALLS, ONE))
        self.wider(one, table(2, 5, SMALLS, ONE))
        self.wider(one, table(2, 4, SMALLS, TWO))
        self.wider(one, table(2, 4, make("", 0, 2, "small"), ONE))
        self.wider(one, table(2, 4, make("", 1, 2, "figure", "small"), ONE))
        self.apart(one, table(3, 5, SMALLS, ONE))
        self.apart(one, table(2, 4, SMALLS, NO))
        self.apart(one, table(2, 4, make("", 2, 3, "small"), ONE))
        self.apart(one, table(1, 5, FIGURES, ONE))
        self.apart(table(10, 10, FIGURES, NO), table(9, 9, FIGURES, NO))

    def test_a_pool(self):
        for one, other in itertools.product(FORMS, FORMS):
            self.hold(model_within(one, other), one, other)

    def test_thrown_forms(self):
        forms = thrown_forms(1, 20) + [thrown_form(Dice(seed), 4) for seed in range(10)]
        seen = []
        for one, other in itertools.product(forms, forms):
            seen.append(model_within(one, other))
            self.hold(model_within(one, other), one, other)
            whole = joined(one, other)
            self.hold(True, one, whole)
            self.hold(whole == one, whole, one)
        self.assertGreater(len(forms) ** 2, sum(seen))

    def test_forms_told(self):
        rows = [thrown_row(seed, 1 + seed % 12, 2 + seed % 3) for seed in range(24)]
        forms = [told(row) for row in rows]
        for row, form in zip(rows, forms):
            for other in forms:
                self.hold(all(model_lets(other, sample) for sample in row), form, other)
                self.hold(all(model_lets(other, sample) for sample in samples_of(form)), form, other)
            for sample in row:
                self.hold(True, form_of(sample), form)

    def test_within_both_ways_is_equal(self):
        forms = FORMS + thrown_forms(5, 40) + [joined(one, other) for one, other in itertools.product(FORMS[::4], FORMS[::5])]
        for one, other in itertools.product(forms, forms):
            self.assertEqual(within(one, other) and within(other, one), one == other, f"{one} {other}")

    def test_joined_is_within_each_form_in_which_both_are(self):
        forms = thrown_forms(9, 16, 2)
        for one, other, third in itertools.product(forms, forms, forms + FORMS[::5]):
            self.assertEqual(within(joined(one, other), third), within(one, third) and within(other, third))

    def test_nothing_stands_twice(self):
        one = (lists(5, 9, record(1, 1, must("a", lists(2, 2, lists(0, 0))))),)
        found = parted(one, (NO,))
        self.assertEqual(len(boxes(found)), len({id(box) for box in boxes(found)}))

    def test_small_values(self):
        great = deep_lists(12, 12, 3, NO)
        other = deep_lists(12, 12, 3, NUMBERS)
        for one, two, most in (
            ((NO,) + great, great, 1), (great, other, 1885), ((lists(0, 60, *great),), (lists(1, 60, *great),), 1),
            ((lists(0, 60, *great),), (lists(0, 1, *great),), 3771), ((lists(0, 9, NO, *great),), (lists(0, 2, NO, *great),), 4),
            ((record(0, 2, may("a", *great), may("b", *great)),), (record(1, 1, must("a", *great)),), 1),
            ((record(1, 2, may("a", *great), may("b", NO)),), (record(1, 2, must("a", *great), may("b", NO)),), 2),
            ((table(0, 2, SMALLS, *great),), (record(1, 1, must("a", *great)),), 1),
            ((lists(3, 3, NO, *great),), (lists(3, 3, *great),), 2 * 1885 + 2),
            ((lists(3, 3, NO, *great),), (lists(3, 3, NO),), 1885 + 3),
            ((table(3, 3, SMALLS, NO, *great),), (table(3, 3, SMALLS, NO),), 1885 + 3),
        ):
            self.assertLessEqual(parts_in(self.hold(False, one, two)[0]), most)

    def test_forms_of_very_many_parts(self):
        one = deep_records("abcdefg", 7, 7, must, 4, NUMBERS)
        other = deep_records("abcdefg", 6, 7, may, 4, NUMBERS)
        third = deep_records("abcdefg", 7, 7, must, 4, TEXTS)
        self.hold(True, one, other)
        self.hold(False, other, one)
        self.apart(one, third)
        self.apart(other, third)

    def test_forms_met(self):
        forms = thrown_forms(2, 25)
        for one, other in itertools.combinations(forms, 2):
            both = met(one, other)
            self.hold(True, both, one)
            self.hold(both == one, one, both)
            self.hold(model_within(other, one), other, both)


class ByName(unittest.TestCase):
    def test_arguments_have_the_interface_s_names(self):
        self.assertIs(within(one=(), other=(NO,)), True)
        self.assertEqual(parted(one=(NO,), other=()), (None,))


if __name__ == "__main__":
    unittest.main()
