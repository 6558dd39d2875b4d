"""Points 2 to 5 and 23: forms met, and forms apart."""

import itertools
import unittest

from leastform.forms import is_form
from leastform.joining import joined, told
from leastform.making import samples_of
from leastform.meeting import are_apart, met
from tests.helper import (
    FORMS, NO, NUMBERS, SMALLS, Asking, all_records, as_form, deep_lists, deep_records, few, lists, make, may, model_lets,
    model_within, must, record, table, thrown_forms, thrown_row,
)

GREAT = 10 ** 59
FIGURES = make("", 1, 1, "figure")
TEXTS = ("texts", SMALLS)
ONE = ("numbers", 1, 1, 0)
TWO = ("numbers", 1, 2, 1)
THREE = ("numbers", 2, 3, 1)


class Meeting(Asking):
    def fits(self, form, one, other):
        """It lets by just what both let by: no value of either shows otherwise, nor any form of the pool."""
        self.assertIs(is_form(form), True, f"{one} {other} {form}")
        self.assertTrue(model_within(form, one) and model_within(form, other), f"{one} {other} {form}")
        for value in samples_of(one) + samples_of(other):
            both = model_lets(one, value) and model_lets(other, value)
            self.assertEqual(model_lets(form, value), both, f"{one} {other} {form} {value}")

    def meet(self, expected, one, other):
        """All three are forms or single parts."""
        expected, one, other = as_form(expected), as_form(one), as_form(other)
        for form in (expected, one, other):
            self.assertIs(is_form(form), True, form)
        self.told(expected, met, one, other)
        self.told(expected, met, other, one)
        self.told(expected == (), are_apart, one, other)
        self.told(expected == (), are_apart, other, one)
        self.fits(expected, one, other)

    def hold(self, expected, one, other):
        """meet, by itself and within lists, fields and tables; one and other are no ()."""
        expected, one, other = as_form(expected), as_form(one), as_form(other)
        self.meet(expected, one, other)
        some = expected != ()
        self.meet(lists(1, 2, *expected) if some else (), lists(1, 2, *one), lists(1, 3, *other))
        self.meet(lists(0, 2, *expected) if some else lists(0, 0), lists(0, 2, *one), lists(0, 3, *other))
        self.meet(record(1, 1, must("a", *expected)) if some else (), record(1, 1, must("a", *one)), record(1, 1, must("a", *other)))
        self.meet(record(0, 1, may("a", *expected)) if some else record(0, 0), record(0, 1, may("a", *one)), record(0, 1, may("a", *other)))
        self.meet(table(0, 2, SMALLS, *expected) if some else record(0, 0), table(0, 2, SMALLS, *one), table(0, 3, SMALLS, *other))
        self.meet(table(1, 2, SMALLS, *expected) if some else (), table(1, 2, SMALLS, *one), table(0, 3, SMALLS, *other))
        self.meet(record(1, 1, must("a", *expected)) if some else (), record(1, 1, must("a", *one)), table(0, 3, SMALLS, *other))

    def test_with_itself_and_with_the_form_without_parts(self):
        for form in FORMS:
            self.meet(form, form, form)
            self.meet((), form, ())

    def test_each_kind(self):
        parts = [NO, ("truths", (False, True)), NUMBERS, TEXTS, lists(0, 2, NO), record(1, 1, must("a", NO))]
        for one, other in itertools.combinations(parts, 2):
            self.hold((), one, other)
            self.hold(one, (one, other), one)
            self.hold(other, tuple(parts), other)
        self.hold((parts[0], parts[2], parts[5]), tuple(parts), (parts[0], parts[2], parts[5]))
        self.hold((parts[1], parts[4]), (parts[0], parts[1], parts[4]), (parts[1], parts[3], parts[4]))
        self.hold((), ("truths", (True,)), ONE)

    def test_truths(self):
        both, yes, no = ("truths", (False, True)), ("truths", (True,)), ("truths", (False,))
        self.hold(yes, both, yes)
        self.hold(no, both, no)
        self.hold((), yes, no)

    def test_runs(self):
        self.hold(("numbers", 0, 6, 6), ("numbers", 0, 8, 2), ("numbers", 0, 9, 3))
        self.hold(("numbers", 6, 6, 0), ("numbers", 0, 8, 2), ("numbers", 3, 9, 3))
        self.hold(("numbers", 4, 4, 0), NUMBERS, ("numbers", 4, 4, 0))
        self.hold((), NUMBERS, ("numbers", 1, 9, 2))
        self.hold((), NUMBERS, ("numbers", 10, 12, 2))
        self.hold((), ONE, ("numbers", 2, 2, 0))
        self.hold(("numbers", -GREAT, GREAT, GREAT), ("numbers", -GREAT, GREAT, 10), ("numbers", -GREAT, GREAT, GREAT))

    def test_words(self):
        self.hold(("texts", few("b")), ("texts", few("a", "b")), ("texts", few("b", "c")))
        self.hold(("texts", few("a", "ab")), ("texts", few("A", "a", "ab", "abc")), TEXTS)
        self.hold((), ("texts", few("a")), ("texts", few("b")))
        self.hold((), ("texts", few("A")), TEXTS)
        self.hold((), TEXTS, ("texts", FIGURES))
        self.hold(("texts", few("")), ("texts", make("", 0, 1, "small")), ("texts", make("", 0, 1, "figure")))
        self.hold(("texts", few("ab")), ("texts", make("a", 0, 1, "small")), ("texts", make("ab", 0, 1, "small")))
        self.hold(("texts", make("ab", 0, 1, "small")), ("texts", make("a", 0, 2, "small")), ("texts", make("ab", 0, 9, "figure", "small")))
        self.hold(("texts", make("", 2, 2, "small")), TEXTS, ("texts", make("", 2, 9, "great", "small")))

    def test_lists(self):
        self.hold(lists(2, 3, NO), lists(1, 3, NO), lists(2, 4, NO))
        self.hold(lists(2, 2, NO), lists(0, 2, NO), lists(2, 60, NO, ONE))
        self.hold((), lists(0, 1, NO), lists(2, 3, NO))
        self.hold(lists(0, 0), lists(0, 1, NO), lists(0, 2, ONE))
        self.hold((), lists(1, 1, NO), lists(0, 2, ONE))
        self.hold(lists(0, 0), lists(0, 0), lists(0, 2, ONE))
        self.hold(lists(0, 0), lists(0, 0), lists(0, 0))
        self.hold((), lists(0, 0), lists(1, 2, ONE))
        self.hold(lists(1, 1, ("numbers", 2, 2, 0)), lists(1, 2, TWO), lists(0, 1, NO, THREE))
        self.hold(lists(1, 2, lists(0, 0)), lists(1, 2, lists(0, 3, NO)), lists(1, 2, lists(0, 3, ONE)))

    def test_records_with_the_same_names(self):
        one = record(1, 2, must("a", TWO), may("b", NO))
        self.hold(record(1, 2, must("a", ("numbers", 2, 2, 0)), may("b", NO)), one, record(1, 2, may("a", THREE), may("b", NO)))
        self.hold(record(2, 2, must("a", TWO), must("b", NO)), one, record(1, 2, may("a", TWO), must("b", NO, ONE)))
        self.hold((), one, record(1, 2, must("a", ("numbers", 3, 3, 0)), may("b", NO)))
        self.hold((), one, record(2, 2, must("a", TWO), must("b", ONE)))

    def test_a_name_that_neither_may_have_is_left_out(self):
        self.hold(record(1, 1, must("a", TWO)), record(1, 2, must("a", TWO), may("b", NO)), record(1, 2, must("a", TWO), may("b", ONE)))
        self.hold(record(1, 1, must("a", TWO)), record(1, 2, must("a", TWO), may("b", NO)), record(1, 2, must("a", TWO), may("c", NO)))
        self.hold(record(0, 0), record(0, 1, may("a", NO)), record(0, 1, may("b", NO)))
        self.hold(record(0, 0), record(0, 1, may("a", NO)), record(0, 1, may("a", ONE)))
        self.hold(record(0, 0), record(0, 0), record(0, 1, may("a", ONE)))
        self.hold((), record(0, 0), record(1, 1, may("a", ONE), may("b", NO)))

    def test_a_name_of_one_alone_that_must_be_there(self):
        self.hold((), record(1, 1, must("a", NO)), record(1, 1, must("b", NO)))
        self.hold((), record(1, 2, must("a", NO), may("b", NO)), record(0, 1, may("b", NO)))
        self.hold((), record(2, 2, must("a", NO), must("b", NO)), record(1, 1, must("a", NO)))
        self.hold((), record(1, 1, must("a", NO)), record(0, 0))

    def test_least_and_most_that_follow(self):
        abc = [may("a", NO), may("b", NO), may("c", NO)]
        # Of the three in both just two are left: both must be there, or neither may, or at most as many as there are.
        self.hold(record(2, 2, must("a", NO), must("b", NO)), record(2, 3, *abc), record(1, 3, *abc[:2], may("d", NO)))
        self.hold(record(1, 2, *abc[:2]), record(1, 3, *abc), record(0, 3, *abc[:2], may("d", NO)))
        self.hold(record(1, 1, *abc[:2]), record(1, 1, *abc), record(0, 3, *abc[:2], may("d", NO)))
        self.hold(record(1, 1, must("a", NO)), record(1, 1, *abc), record(1, 2, must("a", NO), may("b", NO)))
        self.hold(record(1, 1, must("a", NO)), record(1, 1, *abc), record(1, 3, must("a", NO), *abc[1:]))
        self.hold(record(2, 2, must("a", NO), must("b", NO)), record(1, 2, *abc), record(2, 3, must("a", NO), must("b", NO), abc[2]))
        self.hold(record(3, 3, must("a", NO), must("b", NO), must("c", NO)), record(1, 3, must("a", NO), *abc[1:]),
                  record(3, 3, must("a", NO), must("b", NO), must("c", NO)))
        self.hold((), record(2, 3, *abc), record(0, 1, *abc))
        self.hold((), record(2, 2, *abc), record(1, 3, abc[0], may("d", NO), may("e", NO)))
        self.hold((), record(0, 1, *abc), record(2, 3, must("a", NO), must("b", NO), abc[2]))
        self.hold(record(2, 2, *abc), record(0, 2, *abc), record(2, 3, *abc))
        self.hold(record(2, 3, must("a", NO), *abc[1:]), record(2, 3, *abc), record(1, 3, must("a", NO), *abc[1:]))
        self.hold(record(2, 2, must("a", NO), must("b", NO)), record(2, 3, *abc), record(1, 2, must("a", NO), may("b", NO), may("d", NO)))

    def test_musts_of_both_that_are_too_many(self):
        self.hold((), record(1, 1, must("a", NO)), record(1, 2, may("a", NO), must("b", NO)))
        self.hold(record(2, 2, must("a", NO), must("b", NO)), record(1, 2, must("a", NO), may("b", NO)), record(1, 2, may("a", NO), must("b", NO)))
        self.hold((), record(1, 2, must("a", NO), may("b", NO), may("c", NO)), record(3, 3, must("a", NO), must("b", NO), must("c", NO)))

    def test_records_and_tables(self):
        part = table(1, 2, SMALLS, TWO)
        self.hold(record(1, 2, must("a", ONE), may("b", TWO)), part, record(1, 2, must("a", ONE), may("b", NO, TWO)))
        self.hold(record(1, 1, must("a", ONE)), part, record(1, 2, may("A", TWO), must("a", ONE)))
        self.hold(record(1, 1, must("a", ONE)), part, record(1, 2, must("a", ONE), may("b", NO)))
        self.hold((), part, record(1, 2, must("A", TWO), may("a", ONE)))
        self.hold((), part, record(1, 1, must("a", NO)))
        self.hold((), part, record(3, 3, must("a", ONE), must("b", ONE), must("c", ONE)))
        self.hold((), part, record(0, 0))
        self.hold((), part, record(0, 1, may("A", ONE)))
        self.hold(record(0, 0), table(0, 2, SMALLS, TWO), record(0, 1, may("A", ONE)))
        self.hold(record(0, 0), table(0, 2, SMALLS, TWO), record(0, 0))
        self.hold(record(1, 1, must("a", ONE)), part, record(0, 1, may("a", ONE)))
        self.hold(record(1, 2, *[may(name, TWO) for name in "abc"]), part, record(0, 3, *[may(name, TWO) for name in "abc"]))
        self.hold(record(2, 2, *[may(name, TWO) for name in "abc"]), part, record(2, 3, *[may(name, TWO) for name in "abc"]))
        self.hold(record(2, 2, must("a", TWO), must("b", TWO)), part, record(2, 3, may("A", ONE), may("a", TWO), may("b", TWO)))
        self.hold((), part, record(2, 3, may("A", ONE), may("B", ONE), may("a", TWO)))
        self.hold(record(2, 2, must("a", TWO), must("b", TWO)), part, record(2, 3, must("a", TWO), must("b", TWO), may("c", TWO)))

    def test_tables(self):
        part = table(1, 3, SMALLS, TWO)
        self.hold(table(2, 3, SMALLS, ("numbers", 2, 2, 0)), part, table(2, 4, SMALLS, THREE))
        self.hold(table(1, 3, make("", 2, 2, "small"), TWO), part, table(1, 3, make("", 2, 4, "figure", "small"), NO, TWO))
        self.hold((), part, table(4, 4, SMALLS, TWO))
        self.hold((), part, table(0, 4, SMALLS, NO))
        self.hold((), part, table(0, 4, FIGURES, TWO))
        self.hold(record(0, 0), table(0, 3, SMALLS, TWO), table(0, 4, SMALLS, NO))
        self.hold(record(0, 0), table(0, 3, SMALLS, TWO), table(0, 4, FIGURES, TWO))
        self.hold((), table(0, 3, SMALLS, TWO), table(1, 4, FIGURES, TWO))

    def test_tables_whose_makes_leave_few(self):
        small, figure = make("x", 0, 1, "small"), make("x", 0, 1, "figure")
        self.hold(record(0, 1, may("x", TWO)), table(0, 3, small, TWO), table(0, 3, figure, TWO))
        self.hold(record(1, 1, must("x", TWO)), table(1, 3, small, TWO), table(0, 3, figure, TWO))
        self.hold((), table(2, 3, small, TWO), table(0, 3, figure, TWO))
        self.hold(record(0, 0), table(0, 3, small, TWO), table(0, 3, figure, NO))
        self.hold((), table(1, 3, small, TWO), table(0, 3, figure, NO))

    def test_tables_whose_makes_leave_fewer_than_most(self):
        wide = make("", 1, 1, "figure", "small")
        self.hold(table(0, 10, FIGURES, NO), table(0, 30, wide, NO), table(0, 20, make("", 1, 1, "figure", "great"), NO))
        self.hold(table(10, 10, FIGURES, NO), table(10, 30, wide, NO), table(0, 20, make("", 1, 1, "figure", "great"), NO))
        self.hold((), table(11, 30, wide, NO), table(0, 20, make("", 1, 1, "figure", "great"), NO))
        self.hold(table(2, 9, FIGURES, NO), table(2, 30, wide, NO), table(0, 9, make("", 1, 1, "figure", "great"), NO))

    def test_records_of_all_bounds(self):
        records = list(all_records("abc", NO)) + list(all_records("ab", ONE)) + [table(0, 2, SMALLS, NO), table(2, 3, make("a", 0, 1, "small"), NO)]
        dicts = [dict(zip(names, values)) for size in range(4) for names in itertools.combinations("abc", size)
                 for values in itertools.product((None, 1), repeat=size)]
        for one, other in itertools.product(records, records):
            both = met((one,), (other,))
            self.assertIs(is_form(both), True, f"{one} {other} {both}")
            for value in dicts:
                self.assertEqual(model_lets(both, value), model_lets((one,), value) and model_lets((other,), value), f"{one} {other} {value}")

    def test_a_pool(self):
        for one, other in itertools.product(FORMS, FORMS):
            both = met(one, other)
            self.assertEqual(met(other, one), both)
            self.assertIs(are_apart(one, other), both == ())
            self.fits(both, one, other)
            for form in FORMS:
                self.assertEqual(model_within(form, both), model_within(form, one) and model_within(form, other), f"{one} {other} {form}")

    def test_thrown_forms(self):
        forms = thrown_forms(11, 24) + [told(thrown_row(seed, 1 + seed % 12)) for seed in range(12)]
        apart = 0
        for one, other in itertools.product(forms, forms):
            both = self.ask(met, one, other)
            apart += both == ()
            self.assertEqual(met(other, one), both)
            self.assertIs(are_apart(one, other), both == ())
            self.fits(both, one, other)
            self.assertEqual(met(one, both), both)
            self.assertEqual(met(one, joined(one, other)), one)
            self.assertEqual(joined(one, both), one)
            self.assertEqual(both == one, model_within(one, other))
        self.assertGreater(apart, 10)
        self.assertGreater(len(forms) ** 2 - apart, 100)

    def test_three_forms(self):
        forms = thrown_forms(4, 12)
        for one, other, third in itertools.product(forms, repeat=3):
            self.assertEqual(met(met(one, other), third), met(one, met(other, third)))

    def test_forms_of_very_many_parts(self):
        one = deep_records("abcdefg", 7, 7, must, 4, NUMBERS)
        other = deep_records("abcdefg", 6, 7, may, 4, NUMBERS, TEXTS)
        self.told(one, met, one, other)
        self.told((), met, one, deep_records("abcdefg", 7, 7, must, 4, TEXTS))
        self.told(deep_lists(12, 12, 4, NUMBERS), met, deep_lists(0, 12, 4, NUMBERS), deep_lists(12, 60, 4, NUMBERS))


class ByName(unittest.TestCase):
    def test_arguments_have_the_interface_s_names(self):
        self.assertEqual(met(one=(NO,), other=(NO, NUMBERS)), (NO,))
        self.assertIs(are_apart(one=(NO,), other=(NUMBERS,)), True)


if __name__ == "__main__":
    unittest.main()
