"""Points 2, 3, 4 and 14: what a form is, its parts, how deep it is."""

import unittest

from leastform.forms import form_deep, form_parts, is_form, part_for
from tests.helper import (
    FORMS, HOLDERS, KINDS, LEAVES, NO, NUMBERS, SMALLS, Asking, anything, few, lists, make, may, model_told, must, record,
    table, thrown_row,
)

FIGURES = make("", 1, 1, "figure")


def fields(many, first):
    """So many fields, the first of which must be there."""
    return [(name, place < first, (NO,)) for place, name in enumerate("abcdefghij"[:many])]


class IsForm(Asking):
    def forms(self, *parts):
        for part in parts:
            self.told(True, is_form, (part,))

    def none(self, *parts):
        """No forms, neither by themselves nor within others."""
        for part in parts:
            for thing in ((part,), (lists(0, 1, part),), (record(1, 1, must("a", part)),), (record(0, 1, may("a", part)),),
                          (table(0, 1, SMALLS, part),), (NO, part) if part != NO else (part, part)):
                self.told(False, is_form, thing)

    def test_forms(self):
        for form in FORMS:
            self.told(True, is_form, form)

    def test_forms_that_were_told(self):
        for seed in range(40):
            self.told(True, is_form, model_told(thrown_row(seed, 1 + seed % 9)))

    def test_each_part_alone_and_within(self):
        for part in LEAVES + HOLDERS:
            self.forms(part, lists(0, 1, part), record(1, 1, must("a", part)), record(0, 1, may("a", part)),
                       table(0, 1, SMALLS, part))

    def test_no_form_at_all(self):
        self.told(True, is_form, ())
        for thing in anything() + [None, True, False, 0, 1, "", "nothing", [], {}, [NO], [[NO]], {"nothing": 1}]:
            if thing != ():
                self.told(False, is_form, thing)

    def test_anything_in_each_place(self):
        for part in LEAVES + HOLDERS:
            for place in range(1, len(part)):
                for thing in anything() + [None, True, False, -1, "", "a", [], {}, ("few",), ("make", "a")]:
                    if thing == () and part[0] in ("lists", "record"):
                        continue
                    self.told(False, is_form, (part[:place] + (thing,) + part[place + 1:],))

    def test_several_parts_in_the_order_of_the_kinds(self):
        parts = [NO, ("truths", (True,)), NUMBERS, ("texts", SMALLS), lists(0, 0), record(0, 0)]
        other = parts[:-1] + [table(0, 1, SMALLS, NO)]
        for row in (parts, other):
            for bits in range(2 ** 6):
                self.told(True, is_form, tuple(part for place, part in enumerate(row) if bits >> place & 1))

    def test_out_of_order_or_two_for_one_kind(self):
        parts = [NO, ("truths", (True,)), NUMBERS, ("texts", SMALLS), lists(0, 0), record(0, 0), table(0, 1, SMALLS, NO)]
        for one in range(7):
            for other in range(7):
                expected = one < other and (one, other) != (5, 6)
                self.told(expected, is_form, (parts[one], parts[other]))
        for thing in ((("truths", (False,)), ("truths", (True,))), (("numbers", 1, 1, 0), ("numbers", 2, 2, 0)),
                      (lists(0, 0), lists(1, 1, NO)), (record(0, 0), record(1, 1, must("a", NO))),
                      (NO, NUMBERS, NO), tuple(reversed(parts[:6])), tuple(parts)):
            self.told(False, is_form, thing)

    def test_a_part_is_no_form(self):
        for part in LEAVES + HOLDERS:
            self.told(False, is_form, part)
            self.told(False, is_form, ((part,),))

    def test_lists_in_the_place_of_tuples(self):
        for thing in ([NO], [["nothing"]], (["nothing"],), (["numbers", 1, 1, 0],), (("truths", [True]),), (("numbers", [1, 1, 0]),),
                      (("texts", ["few", ("a",)]),), (("texts", ("few", ["a"])),), (("texts", ["a"]),),
                      (("texts", ("make", "", 0, 1, ["small"])),), (("lists", 0, 0, []),), (("lists", 0, 1, [NO]),),
                      (("lists", 0, 1, (["nothing"],)),), (["lists", 0, 0, ()],), (("record", 0, 0, []),),
                      (("record", 1, 1, [must("a", NO)]),), (("record", 1, 1, (["a", True, (NO,)],)),),
                      (("record", 1, 1, (("a", True, [NO]),)),), (("table", 0, 1, list(SMALLS), (NO,)),),
                      (("table", 0, 1, SMALLS, [NO]),), (("record", 0, 0, {}),)):
            self.told(False, is_form, thing)

    def test_first_words(self):
        self.none(("Nothing",), ("",), ("none",), (None,), (True,), (0,), ([],), ({},), ((),), ("truth", (True,)),
                  ("number", 1, 1, 0), ("text", few("a")), ("list", 0, 0, ()), ("records", 0, 0, ()), ("dict", 0, 0, ()),
                  ("tables", 0, 1, SMALLS, (NO,)), ("nothing\n",), ("few", ("a",)), SMALLS, ())

    def test_too_many_or_too_few_in_a_part(self):
        for part in LEAVES + HOLDERS:
            self.none(part + (None,), part + ((),), part + (1,))
            if part != NO:
                self.none(part[:-1], part[:1])

    def test_truths(self):
        self.forms(("truths", (False,)), ("truths", (True,)), ("truths", (False, True)))
        self.none(("truths", ()), ("truths", (True, False)), ("truths", (True, True)), ("truths", (False, False)),
                  ("truths", (False, True, True)), ("truths", (False, False, True)), ("truths", True), ("truths", False),
                  ("truths", (0,)), ("truths", (1,)), ("truths", (0, 1)), ("truths", (False, 1)), ("truths", (0, True)),
                  ("truths", (None,)), ("truths", ("yes",)), ("truths", ((),)), ("truths", False, True))

    def test_numbers(self):
        self.forms(("numbers", 0, 0, 0), ("numbers", -4, 4, 8), ("numbers", 1, 10 ** 69, 1))
        self.none(("numbers", (0, 0, 0)), ("numbers", 1, 0, 1), ("numbers", 0, 0, 1), ("numbers", 0, 1, 0), ("numbers", 0, 3, 2),
                  ("numbers", 0, 2, -1), ("numbers", True, True, 0), ("numbers", 1, 1, False), ("numbers", 0, True, 1),
                  ("numbers", False, 1, 1), ("numbers", 0, 1, True), ("numbers", "0", "0", 0), ("numbers", None, None, None))

    def test_texts(self):
        self.forms(("texts", few("")), ("texts", few("", "a")), ("texts", make("", 0, 1, "other")), ("texts", make("x", 9, 10 ** 69, "great")))
        self.none(("texts", few()), ("texts", few("b", "a")), ("texts", few("a", "a")), ("texts", few("%")), ("texts", few("\n")),
                  ("texts", few(*"abcdefg")), ("texts", "a"), ("texts", ("a",)), ("texts", ("many", ("a",))), ("texts", None),
                  ("texts", make("", 0, 0, "small")), ("texts", make("", 2, 1, "small")), ("texts", make("", 0, 1)),
                  ("texts", make("", False, 1, "small")), ("texts", make("", 0, True, "small")),
                  ("texts", make("", 0, 1, "small", "figure")), ("texts", "few", ("a",)))

    def test_lists(self):
        self.forms(lists(0, 0), lists(0, 1, NO), lists(1, 1, NO), lists(0, 10 ** 69, NO), lists(10 ** 69, 10 ** 69, NO))
        self.none(lists(0, 0, NO), lists(0, 1), lists(1, 1), lists(60, 60), lists(1, 0), lists(1, 0, NO), lists(2, 1, NO),
                  lists(-1, 1, NO), lists(-1, 0), lists(-2, -1, NO), lists(False, 1, NO), lists(0, True, NO), lists(0, False),
                  lists(False, 0), lists(True, True, NO), lists(None, 1, NO), lists(0, None, NO), lists("0", "1", NO),
                  ("lists", 0, 1, NO), ("lists", 0, 1, ((),)), ("lists", 0, 0, None), ("lists", 0, 0, ((),)), ("lists", 0, 1, 1))

    def test_fields(self):
        self.forms(record(1, 1, must("", NO)), record(1, 2, may("", NO), must("a", NO)), record(1, 1, may("A", NO), may("a", NO)),
                   record(2, 2, must("a", NO), must("aa", NO)), record(1, 1, must("x" * 100, NO)))
        self.none(record(2, 2, must("b", NO), must("a", NO)), record(2, 2, must("a", NO), must("a", NO)),
                  record(1, 2, must("a", NO), may("a", NUMBERS)), record(0, 2, may("b", NO), may("a", NO)),
                  record(3, 3, must("a", NO), must("c", NO), must("b", NO)), record(2, 2, must("a", NO), must("Z", NO)),
                  record(3, 3, must("a", NO), must("b", NO), must("b", NO)), record(1, 1, must("a\n", NO)), record(1, 1, must("%", NO)),
                  record(1, 1, must("\t", NO)), record(1, 1, (1, True, (NO,))), record(1, 1, (None, True, (NO,))),
                  record(1, 1, (("a",), True, (NO,))), record(1, 1, (["a"], True, (NO,))), record(1, 1, must("a")),
                  record(0, 1, may("a")), record(1, 2, must("a", NO), may("b")), record(1, 2, must("a"), may("b", NO)),
                  record(1, 1, ("a", 1, (NO,))), record(0, 1, ("a", 0, (NO,))), record(1, 1, ("a", "must", (NO,))),
                  record(0, 1, ("a", None, (NO,))), record(1, 1, ("a", True)), record(1, 1, ("a", True, (NO,), ())),
                  record(1, 1, ("a", True, NO)), record(1, 1, ("a", (NO,), True)), record(1, 1, ()), record(1, 1, None),
                  record(1, 1, "a"), ("record", 1, 1, must("a", NO)), ("record", 1, 1, "a"), ("record", 0, 0, None))

    def test_names_of_several_sorts(self):
        self.none(record(2, 2, must("a", NO), (1, True, (NO,))), record(2, 2, (1, True, (NO,)), must("a", NO)),
                  record(2, 2, (1, True, (NO,)), (2, True, (NO,))), record(2, 2, (None, True, (NO,)), must("a", NO)))

    def test_eight_fields_and_nine(self):
        for first in range(9):
            self.told(True, is_form, (record(first if first < 8 else 8, 8, *fields(8, first)),))
            self.told(False, is_form, (record(first, 8, *fields(9, first)),))
            self.told(False, is_form, (record(first, 9, *fields(9, first)),))
        self.told(False, is_form, (record(9, 9, *fields(9, 9)),))
        self.told(False, is_form, (record(8, 8, *fields(10, 8)),))

    def test_least_and_most_of_a_record(self):
        for many in range(9):
            for first in range(many + 1):
                for least in range(-1, many + 2):
                    for most in range(-1, many + 2):
                        expected = first <= least <= most <= many
                        if first < many:
                            expected = expected and least < many and most > first
                        self.told(expected, is_form, (record(least, most, *fields(many, first)),))

    def test_least_and_most_of_a_record_by_hand(self):
        self.forms(record(0, 0), record(2, 2, *fields(2, 2)), record(1, 2, *fields(3, 1)), record(2, 3, *fields(3, 1)),
                   record(2, 2, *fields(3, 1)), record(1, 3, *fields(3, 1)), record(2, 3, *fields(3, 2)))
        self.none(record(0, 1), record(1, 1), record(-1, 0), record(1, 2, *fields(2, 2)), record(2, 3, *fields(2, 2)),
                  record(0, 2, *fields(3, 1)), record(1, 1, *fields(3, 1)), record(3, 3, *fields(3, 1)), record(1, 4, *fields(3, 1)),
                  record(3, 2, *fields(3, 1)), record(2, 2, *fields(3, 2)), record(3, 3, *fields(3, 2)), record(0, 0, *fields(1, 0)),
                  record(1, 1, *fields(1, 0)), record(False, 0), record(0, False), record(True, True, must("a", NO)),
                  record(False, 1, may("a", NO)), record(0, True, may("a", NO)), record(1, True, must("a", NO)),
                  record(True, 1, must("a", NO)), record("0", "0"), record(None, None))

    def test_which_fields_must_be_there_says_nothing_of_the_order(self):
        for one in (record(1, 2, may("a", NO), must("b", NO)), record(1, 2, must("a", NO), may("b", NO))):
            self.forms(one)
        self.none(record(0, 2, may("a", NO), must("b", NO)), record(2, 2, may("a", NO), must("b", NO)),
                  record(1, 1, may("a", NO), must("b", NO)))

    def test_tables(self):
        self.forms(table(0, 1, FIGURES, NO), table(0, 10, FIGURES, NO), table(10, 10, FIGURES, NO), table(1, 1, FIGURES, NO),
                   table(0, 11, make("x", 0, 1, "figure"), NO), table(0, 100, make("x", 2, 2, "figure"), NO),
                   table(0, 110, make("x", 1, 2, "figure"), NO), table(0, 94, make("", 1, 1, "figure", "great", "other", "small"), NO),
                   table(10 ** 69, 10 ** 69, make("", 69, 69, "figure"), NO), table(0, 10 ** 69, make("", 70, 10 ** 69, "figure"), NO))
        self.none(table(0, 0, FIGURES, NO), table(0, 0, FIGURES), table(0, 1, FIGURES), table(0, 11, FIGURES, NO), table(11, 11, FIGURES, NO),
                  table(0, 12, make("x", 0, 1, "figure"), NO), table(0, 101, make("x", 2, 2, "figure"), NO),
                  table(0, 111, make("x", 1, 2, "figure"), NO), table(0, 95, make("", 1, 1, "figure", "great", "other", "small"), NO),
                  table(0, 10 ** 69, make("", 68, 68, "figure"), NO), table(0, 10 ** 69 + 1, make("", 69, 69, "figure"), NO),
                  table(1, 0, FIGURES, NO), table(2, 1, FIGURES, NO), table(-1, 1, FIGURES, NO), table(-2, -1, FIGURES, NO),
                  table(False, 1, FIGURES, NO), table(0, True, FIGURES, NO), table(True, True, FIGURES, NO), table(None, 1, FIGURES, NO),
                  table("0", "1", FIGURES, NO), ("table", 0, 1, FIGURES, NO), ("table", 0, 1, FIGURES, None), ("table", 0, 1, (NO,), FIGURES))

    def test_a_table_s_make(self):
        self.none(table(0, 1, few("a"), NO), table(0, 6, few(*"abcdef"), NO), table(1, 1, few("a", "b"), NO), table(0, 1, ("few",), NO),
                  table(0, 1, ("make",), NO), table(0, 1, (), NO), table(0, 1, None, NO), table(0, 1, "small", NO),
                  table(0, 1, make("", 0, 0, "small"), NO), table(0, 1, make("", 0, 0), NO), table(0, 1, make("", 1, 1), NO),
                  table(0, 1, make("%", 1, 1, "small"), NO), table(0, 1, make("", 2, 1, "small"), NO),
                  table(0, 1, make("", 1, 1, "smalls"), NO), table(0, 1, make("", 1, True, "small"), NO),
                  table(0, 1, ("texts", SMALLS), NO), table(0, 1, make("\n", 1, 1, "small"), NO))

    def test_no_bound_is_looked_at(self):
        form = (NO,)
        for _ in range(11):
            form = (record(0, 1, may("a", lists(0, 1000, *form))),)
        self.told(True, is_form, form)
        self.told(True, is_form, (lists(10 ** 65, 10 ** 69, *form),))
        wide = (NUMBERS,)
        for _ in range(3):
            wide = (record(8, 8, *[must(name, *wide) for name in "abcdefgh"]),)
        self.told(True, is_form, (lists(0, 1, *wide),))
        self.told(False, is_form, (lists(0, 1, *wide, NO),))


class PartFor(Asking):
    def test_each_kind_with_and_without(self):
        parts = [NO, ("truths", (True,)), NUMBERS, ("texts", SMALLS), lists(0, 2, NO), record(1, 1, must("a", NO))]
        for row in (parts, parts[:-1] + [table(0, 1, SMALLS, NO)]):
            for bits in range(2 ** 6):
                form = tuple(part for place, part in enumerate(row) if bits >> place & 1)
                for place, kind in enumerate(KINDS):
                    self.told(row[place] if bits >> place & 1 else None, part_for, form, kind)

    def test_not_within(self):
        for kind in KINDS:
            self.told(None, part_for, (), kind)
            if kind != "list":
                self.told(None, part_for, (lists(0, 1, NO, NUMBERS, record(0, 0)),), kind)
            if kind != "dict":
                self.told(None, part_for, (record(1, 1, must("a", NO, NUMBERS, lists(0, 0))),), kind)
                self.told(None, part_for, (table(0, 1, SMALLS, NO, NUMBERS, lists(0, 0)),), kind)


class PartsAndDeep(Asking):
    def hold(self, parts, deep, form):
        self.told(parts, form_parts, form)
        self.told(deep, form_deep, form)

    def test_of_none_and_of_leaves(self):
        self.hold(0, 0, ())
        for part in LEAVES:
            self.hold(1, 1, (part,))
        self.hold(2, 1, (NO, NUMBERS))
        self.hold(4, 1, (NO, ("truths", (False, True)), NUMBERS, ("texts", few(*"abcdef"))))

    def test_of_forms_within(self):
        for parts, deep, part in (
            (1, 1, lists(0, 0)), (2, 2, lists(0, 1, NO)), (3, 2, lists(0, 60, NO, NUMBERS)), (2, 2, lists(0, 1, lists(0, 0))),
            (3, 3, lists(0, 1, lists(0, 1, NO))), (1, 1, record(0, 0)), (2, 2, record(1, 1, must("a", NO))),
            (3, 2, record(0, 2, may("a", NO), may("b", NO))), (9, 2, record(8, 8, *[must(name, NO) for name in "abcdefgh"])),
            (4, 2, record(1, 2, must("a", NO), may("b", NO, NUMBERS))), (4, 3, record(1, 2, must("a", lists(0, 1, NO)), may("b", NO))),
            (4, 3, record(1, 2, must("a", NO), may("b", lists(0, 1, NO)))), (2, 2, table(0, 1, SMALLS, NO)),
            (3, 2, table(9, 60, SMALLS, NO, NUMBERS)), (3, 3, table(0, 1, SMALLS, table(0, 1, SMALLS, NO))),
            (3, 3, table(0, 1, SMALLS, lists(0, 1, NO))), (2, 2, table(0, 1, SMALLS, lists(0, 0))),
            (5, 5, lists(0, 1, record(1, 1, must("a", table(0, 1, SMALLS, lists(0, 1, NO)))))),
        ):
            self.hold(parts, deep, (part,))
        self.hold(6, 3, (NO, lists(0, 1, lists(0, 1, NO)), record(1, 1, must("a", NO))))
        self.hold(6, 3, (NO, lists(0, 1, NO), record(1, 1, must("a", lists(0, 1, NO)))))
        self.hold(7, 3, (NUMBERS, lists(0, 1, NO, NUMBERS), table(0, 1, SMALLS, lists(0, 1, NO))))

    def test_the_same_form_at_two_places_counts_twice(self):
        leaf = (NO, NUMBERS)
        self.hold(6, 2, (lists(0, 1, *leaf), record(1, 1, must("a", *leaf))))
        self.hold(5, 2, (record(2, 2, must("a", *leaf), must("b", *leaf)),))


class ByName(unittest.TestCase):
    def test_arguments_have_the_interface_s_names(self):
        self.assertIs(is_form(thing=(NO,)), True)
        self.assertEqual(part_for(form=(NO,), kind="nothing"), NO)
        self.assertEqual(form_parts(form=(NO,)), 1)
        self.assertEqual(form_deep(form=(NO,)), 1)


if __name__ == "__main__":
    unittest.main()
