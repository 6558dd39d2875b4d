"""Points 2 to 5 and 21: a value made of a form, and samples of which the form is told."""

import itertools
import unittest

from leastform.errors import NoValue
from leastform.forms import form_parts, is_form
from leastform.joining import joined, told
from leastform.making import made, samples_of
from leastform.meeting import met
from leastform.values import parts_in
from tests.helper import (
    FORMS, LEAVES, NO, NUMBERS, SMALLS, Asking, Dice, all_records, boxes, deep_lists, deep_records, few, lists, make, may, model_lets,
    model_told, must, record, table, thrown_form, thrown_forms, thrown_row,
)

GREAT = 10 ** 59
FIGURES = make("", 1, 1, "figure")
BIG_MAKE = make("n", 0, 59, "figure", "great", "other", "small")
THREE = ("numbers", 1, 3, 1)


class Making(Asking):
    def hold(self, form):
        """The samples, once it is seen that form and samples fit, and that made fits, too."""
        self.assertIs(is_form(form), True, form)
        self.assertTrue(model_lets(form, self.ask(made, form)), form)
        samples = self.ask(samples_of, form)
        self.assertIs(type(samples), list)
        for sample in samples:
            self.assertTrue(model_lets(form, sample), f"{form} {sample}")
            self.assertLessEqual(parts_in(sample), 5000)
        self.assertEqual(model_told(samples), form)
        self.assertEqual(told(samples), form)
        return samples

    def test_of_the_form_without_parts(self):
        self.refused(NoValue, made, ())
        self.told([], samples_of, ())

    def test_each_leaf(self):
        for part in LEAVES:
            self.hold((part,))
        self.told(None, made, (NO,))
        self.told(True, made, (("truths", (True,)),))
        self.told(False, made, (("truths", (False,)),))

    def test_truths(self):
        for some in ((False,), (True,), (False, True)):
            samples = self.hold((("truths", some),))
            self.assertEqual({repr(sample) for sample in samples}, {repr(truth) for truth in some})

    def test_runs(self):
        for run in ((3, 3, 0), (-4, -4, 0), (3, 5, 2), (0, 1, 1), (0, 4, 2), (-1, 1, 1), (0, GREAT, 1), (-GREAT, GREAT, 1),
                    (-GREAT, GREAT, 2 * GREAT), (-GREAT, GREAT, GREAT), (7, 7 + 6 * 10 ** 50, 6)):
            samples = self.hold((("numbers",) + run,))
            self.assertLess(len(samples), 50)

    def test_words(self):
        for words in (few(""), few("a"), few("", "a"), few(*"abcdef"), few("a", "ab", "abc"), FIGURES, SMALLS, make("", 0, 1, "other"),
                      make("ab", 2, 2, "great"), make("a\"b", 0, 57, "figure", "great", "other", "small"), make("", 60, 60, "small"),
                      make("x" * 59, 0, 1, "figure"), make("0", 1, 3, "figure", "other")):
            samples = self.hold((("texts", words),))
            self.assertLess(len(samples), 50)

    def test_lists(self):
        for least, most in ((0, 1), (0, 2), (0, 60), (1, 1), (1, 2), (2, 2), (3, 3), (12, 12), (12, 60), (1, 60), (2, 7)):
            for parts in ((NO,), (THREE,), (NUMBERS, ("texts", SMALLS)), (lists(0, 0),), (lists(2, 3, THREE),), (record(0, 0),)):
                samples = self.hold((lists(least, most, *parts),))
                self.assertEqual({len(sample) for sample in samples} & {least, most}, {least, most})
                self.assertEqual(len(made((lists(least, most, *parts),))), least)
        self.told([], made, (lists(0, 0),))
        self.told([], made, (lists(0, 9, NO),))
        self.told([None, None], made, (lists(2, 9, NO),))
        self.told([[]], samples_of, (lists(0, 0),))

    def test_lists_within_one_another(self):
        for least, most in ((0, 1), (0, 60), (1, 2), (2, 2), (3, 9)):
            self.hold(deep_lists(least, most, 4, NO, NUMBERS))
        self.hold((lists(0, 3, lists(0, 0)),))
        self.hold((NO, lists(0, 3, NO, lists(1, 2, THREE, lists(2, 2, ("texts", SMALLS))))))

    def test_records_of_all_bounds(self):
        many = 0
        for part in all_records("abcd", THREE):
            many += 1
            self.hold((part,))
            self.hold((lists(1, 2, part),))
            self.assertEqual(len(made((part,))), part[1])
        self.assertGreater(many, 60)

    def test_records(self):
        for part in (record(0, 0), record(0, 1, may("a", NO)), record(1, 1, must("a", NO)), record(1, 1, may("a", NO), may("b", NO)),
                     record(2, 3, must("a", THREE), may("b", NO), may("c", ("texts", SMALLS))), record(0, 1, may("", THREE)),
                     record(2, 2, must("a", NO), may("b", NO), may("c", NO)), record(7, 7, *[may(name, THREE) for name in "abcdefgh"]),
                     record(7, 8, *[may(name, THREE) for name in "abcdefgh"]), record(8, 8, *[must(name, THREE) for name in "abcdefgh"]),
                     record(1, 1, *[may(name, lists(0, 2, THREE)) for name in "abcdefgh"]),
                     record(1, 2, must("a", lists(3, 3, NO)), *[may(name, lists(place, 9, THREE)) for place, name in enumerate("bcdefg")])):
            self.hold((part,))
            self.hold((lists(0, 1, part),))
            self.hold((record(1, 1, must("x", part)),))
            self.hold((record(0, 1, may("x", part), may("y", NO)),))
            self.hold((table(1, 2, SMALLS, part),))
        self.told({}, made, (record(0, 0),))
        self.told({}, made, (record(0, 1, may("a", NO)),))
        self.told({"a": None}, made, (record(1, 2, must("a", NO), may("b", NO)),))
        self.assertEqual(len(made((record(2, 3, must("a", NO), may("b", NO), may("c", NO)),))), 2)

    def test_tables(self):
        for least, most, words in ((0, 1, FIGURES), (1, 1, FIGURES), (0, 10, FIGURES), (10, 10, FIGURES), (9, 10, FIGURES),
                                   (0, 11, make("a", 0, 1, "figure")), (11, 11, make("", 0, 1, "figure")), (12, 60, SMALLS),
                                   (12, 12, make("x", 0, 1, "great")), (0, 60, BIG_MAKE), (12, 60, BIG_MAKE), (1, 2, BIG_MAKE),
                                   (2, 3, make("", 60, 60, "small")), (26, 26, make("", 1, 1, "great"))):
            for parts in ((NO,), (THREE, ("texts", SMALLS)), (lists(1, 2, THREE),), (record(1, 1, may("a", NO), may("b", NO)),)):
                form = (table(least, most, words, *parts),)
                samples = self.hold(form)
                self.assertEqual({len(sample) for sample in samples} & {least, most}, {least, most})
                self.assertEqual(len(made(form)), least)
                self.hold((lists(1, 1, *form),))
        self.hold((table(0, 60, SMALLS, table(1, 3, BIG_MAKE, table(9, 9, FIGURES, NO))),))

    def test_many_kinds_of_values_in_a_table(self):
        self.hold((table(1, 1, FIGURES, NO, ("truths", (False, True)), NUMBERS, ("texts", SMALLS), lists(0, 3, NUMBERS), record(0, 0)),))

    def test_several_parts(self):
        self.hold((NO, ("truths", (True,)), NUMBERS, ("texts", SMALLS), lists(2, 3, NO, NUMBERS), table(9, 12, SMALLS, NO)))
        self.hold((lists(3, 3, NO), record(1, 1, must("a", NO))))
        self.hold((("texts", few("a", "b")), lists(0, 0), record(0, 0)))

    def test_a_pool(self):
        for form in FORMS[1:]:
            self.hold(form)
            self.hold((lists(1, 3, *form),))
            self.hold((record(1, 2, must("a", *form), may("b", *form)),))
            self.hold((record(1, 1, may("a", *form), may("b", *form)),))
            self.hold((table(2, 3, SMALLS, *form),))

    def test_thrown_forms(self):
        for seed in range(150):
            self.hold(thrown_form(Dice(seed), 2 + seed % 4))

    def test_forms_told_joined_and_met(self):
        forms = [told(thrown_row(seed, 1 + seed % 12, 2 + seed % 3)) for seed in range(30)]
        for form in forms:
            self.hold(form)
        for one, other in itertools.combinations(forms[:12] + thrown_forms(3, 8), 2):
            self.hold(joined(one, other))
            if met(one, other) != ():
                self.hold(met(one, other))

    def test_a_dict_of_very_many_names(self):
        wide = {"n" + str(place): [place] for place in range(249)}
        self.hold(told([wide]))
        self.hold(told([wide, {}]))
        self.hold(told([{"x": wide}, {"x": {}}, {"x": {"n": []}}]))

    def test_nothing_stands_twice(self):
        for form in (deep_lists(3, 5, 3, record(0, 0)), (table(12, 60, SMALLS, lists(0, 1, lists(0, 0))),),
                     (record(2, 3, *[may(name, lists(1, 2, record(0, 0))) for name in "abc"]),)):
            for told_thing in (made(form), samples_of(form)):
                found = [id(box) for box in boxes(told_thing)]
                self.assertEqual(len(found), len(set(found)))


class Small(Asking):
    """Values as small as they may be: what is made of great forms keeps to the bound of point 21."""

    def hold(self, form, most):
        samples = samples_of(form)
        self.assertLessEqual(max(map(parts_in, samples)), most)
        self.assertTrue(all(model_lets(form, sample) for sample in samples))
        self.assertEqual(told(samples), form)
        self.assertTrue(model_lets(form, made(form)))
        self.assertLessEqual(parts_in(made(form)), min(map(parts_in, samples)))
        return samples

    def test_a_smaller_part_is_taken(self):
        great = lists(12, 12, *deep_lists(12, 12, 3, NO))
        self.assertEqual(parts_in(made((NUMBERS, great))), 1)
        self.assertEqual(parts_in(made((great, record(1, 1, must("a", NO))))), 2)
        self.assertEqual(parts_in(made((lists(3, 3, lists(2, 2, NO), record(0, 0)),))), 4)
        self.assertEqual(made((record(1, 1, may("a", great), may("b", lists(2, 2, NO)), may("c", NO, great)),)), {"c": None})
        self.assertEqual(made((lists(0, 60, great),)), [])

    def test_a_great_one_that_may_stay_away(self):
        great = deep_lists(12, 12, 3, NO)
        self.hold((record(1, 2, may("a", *great), may("b", *great), may("c", NO)),), 5000)
        self.hold((record(1, 3, may("a", *great), may("b", *great), may("c", *great)),), 1 + 3 * 1885)
        self.hold((record(1, 2, may("a", *great), may("b", *great), may("c", *great)),), 5000)
        self.hold((lists(0, 2, *great),), 5000)
        self.hold((lists(1, 2, lists(0, 0), *great[1:], record(0, 1, may("a", *great))),), 5000)
        self.hold((lists(1, 3, NO, record(0, 1, may("a", *great))),), 5000)
        self.hold((table(1, 2, SMALLS, *great),), 5000)

    def test_just_five_thousand(self):
        # 1885 + 1885 + 949 parts that must be there, beside 281 for the record and what stands in the others.
        great = deep_lists(12, 12, 3, NO)
        less = (lists(12, 12, lists(6, 6, lists(12, 12, NO))),)
        rest = 5000 - 1 - 2 * 1885 - 949
        for fields, needed in (
            ([must("x", lists(0, rest - 1, NO))], rest),
            ([must("x", lists(0, 30, lists(0, rest - 2, NO)))], rest),
            ([must("x", lists(0, 30, lists(0, rest - 3, NO))), must("y", lists(0, 30, lists(0, rest - 3, NUMBERS)))], rest),
            ([may("x", lists(0, 30, lists(0, rest - 2, NO))), may("y", lists(0, 30, lists(0, rest - 2, NUMBERS)))], rest),
        ):
            musts = 3 + sum(field[1] for field in fields)
            form = (record(musts, 3 + len(fields), must("a", *great), must("b", *great), must("c", *less), *fields),)
            self.assertIs(is_form(form), True)
            self.assertEqual(parts_in(made(form)), 5000 - rest + sum(field[1] for field in fields))
            self.assertEqual(max(map(parts_in, self.hold(form, 5000))), 5000)

    def test_forms_of_very_many_parts(self):
        for form in (deep_records("abcdefg", 7, 7, must, 4, NUMBERS), deep_records("abcdefg", 0, 7, may, 4, NUMBERS),
                     deep_records("abcdefg", 1, 1, may, 4, NO), deep_records("abcde", 2, 3, may, 4, NO, NUMBERS)):
            self.assertGreater(form_parts(form), 900)
            self.hold(form, 5000)

    def test_lists_of_sixty_within_one_another(self):
        self.hold(deep_lists(0, 60, 4, NUMBERS), 1000)
        self.hold(deep_lists(1, 60, 4, NUMBERS), 1000)
        self.hold((table(0, 60, BIG_MAKE, *deep_lists(0, 60, 3, NUMBERS)),), 1000)


class ByName(unittest.TestCase):
    def test_arguments_have_the_interface_s_names(self):
        self.assertIsNone(made(form=(NO,)))
        self.assertEqual(samples_of(form=(NO,)), [None])


if __name__ == "__main__":
    unittest.main()
