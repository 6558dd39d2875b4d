"""Point 5, sentence by sentence, by the program's own answers over rows of samples of several sorts."""

import itertools
import unittest

from leastform.books import Book
from leastform.changing import breaks, changes
from leastform.cores import core
from leastform.desk import Desk
from leastform.formtexts import read_form, show_form
from leastform.holding import parted, within
from leastform.joining import form_of, joined, told
from leastform.letting import fault, lets
from leastform.making import made, samples_of
from leastform.meeting import are_apart, met
from leastform.values import same
from leastform.valuetexts import read_value, show_value
from tests.helper import FORMS, shown, thrown_forms, thrown_row

BY_HAND = [
    [],
    [None],
    [1, True, 0, False],
    [{"id": 1, "name": "a"}, {"id": 2, "name": "b"}, {"id": 9, "name": None}],
    [{"id": 1, "tags": []}, {"id": 3, "tags": ["x", "y"]}, {"id": 5, "tags": ["x"], "on": True}],
    [{"id-" + str(place): place * 3} for place in range(12)],
    [{"k" + str(place): [place] for place in range(size)} for size in (0, 3, 9, 20)],
    [[], [[]], [[], [[], []]], [[[1]]]],
    [10 ** 59, -10 ** 59, 0],
    ["", "a", "aa", "ab", "abc", "b0", "Z-"],
    [{"a": 1}, {"b": 2}, {"a": 3, "c": 4}, {"d": []}, {}],
    [[1, "x", None], {"a": [1, "x", None]}, "x", 1, None],
]
ROWS = BY_HAND + [thrown_row(seed, 1 + seed % 10, 2 + seed % 3) for seed in range(100, 130)]
TOLD = [told(row) for row in ROWS]
OTHERS = FORMS[::3] + thrown_forms(55, 12)


class Whole(unittest.TestCase):
    def test_the_form_told_lets_each_sample_by(self):
        for row, form in zip(ROWS, TOLD):
            self.assertTrue(all(lets(form, sample) and fault(form, sample) is None for sample in row))

    def test_it_stands_within_every_form_that_does(self):
        for (row, form), other in itertools.product(zip(ROWS, TOLD), TOLD + OTHERS):
            self.assertEqual(all(lets(other, sample) for sample in row), within(form, other))

    def test_order_cutting_and_samples_that_come_again_change_nothing(self):
        for row, form in zip(ROWS, TOLD):
            for other in (row[::-1], row[1:] + row[:1], row + row, row[::2] + row[1::2] + row[:1]):
                self.assertEqual(told(other), form)
            for first in range(len(row) + 1):
                for second in range(first, len(row) + 1):
                    cut = [told(row[:first]), told(row[first:second]), told(row[second:])]
                    self.assertEqual(joined(joined(cut[0], cut[1]), cut[2]), form)
                    self.assertEqual(joined(cut[2], joined(cut[1], cut[0])), form)
            self.assertEqual(told([row[place] for place in core(row)]), form)

    def test_a_sample_that_is_let_by_changes_no_form_and_any_other_does(self):
        for form, row in itertools.product(TOLD + OTHERS, ROWS[::3]):
            for sample in row:
                self.assertEqual(joined(form, form_of(sample)) == form, lets(form, sample))

    def test_within_or_a_value_that_parts(self):
        forms = TOLD + OTHERS
        for one, other in itertools.product(forms, forms):
            found = parted(one, other)
            self.assertEqual(found == (), within(one, other))
            for value in found:
                self.assertTrue(lets(one, value) and not lets(other, value))
            self.assertEqual(within(one, other) and within(other, one), one == other)

    def test_joined_and_met(self):
        forms = TOLD[::2] + OTHERS[::2]
        for one, other in itertools.combinations(forms, 2):
            whole, both = joined(one, other), met(one, other)
            self.assertTrue(within(one, whole) and within(other, whole))
            self.assertEqual(are_apart(one, other), both == ())
            for form in forms[::2]:
                self.assertEqual(within(whole, form), within(one, form) and within(other, form))
                self.assertEqual(within(form, both), within(form, one) and within(form, other))
            for value in samples_of(one) + samples_of(other) + samples_of(both):
                self.assertEqual(lets(both, value), lets(one, value) and lets(other, value))

    def test_each_form_is_told_of_the_samples_made_from_it(self):
        forms = set(TOLD + OTHERS)
        for form in forms:
            samples = samples_of(form)
            self.assertTrue(all(lets(form, sample) for sample in samples))
            self.assertEqual(told(samples), form)
            self.assertTrue(form == () or lets(form, made(form)))
        # So unlike forms let unlike values by.
        for one, other in itertools.permutations(forms, 2):
            values = samples_of(one) + samples_of(other)
            self.assertNotEqual([lets(one, value) for value in values], [lets(other, value) for value in values])

    def test_changes_and_whom_they_break(self):
        forms = TOLD + OTHERS
        for old, new in itertools.product(forms, forms):
            ways = {way for _, _, way in changes(old, new)}
            writers, readers = breaks(old, new)
            self.assertEqual(ways == set(), old == new)
            self.assertEqual(writers == (), not ways & {"gone", "narrower", "other"})
            self.assertEqual(readers == (), not ways & {"come", "wider", "other"})
            self.assertEqual(writers == (), within(old, new))
            for value in writers:
                self.assertTrue(lets(old, value) and not lets(new, value))
            for value in readers:
                self.assertTrue(lets(new, value) and not lets(old, value))

    def test_what_is_written_is_read_as_it_was(self):
        for row, form in zip(ROWS, TOLD):
            self.assertEqual(read_form(show_form(form)), form)
            for sample in row:
                self.assertTrue(same(read_value(show_value(sample)), sample))
                self.assertEqual(shown(read_value(show_value(sample))), shown(sample))

    def test_book_and_desk_tell_the_same(self):
        for row, form in zip(ROWS, TOLD):
            book, desk = Book(), Desk()
            desk.say("form x never")
            for sample in row:
                answer = desk.say("take x " + show_value(sample))
                self.assertEqual(answer, "more" if book.take("x", sample) else "same")
            self.assertEqual(read_form(desk.say("show x")), form)
            if row:
                self.assertEqual(book.form("x"), form)
                self.assertEqual(told(book.samples("x")), form)
                book.shut("x")
                self.assertTrue(all(book.take("x", sample) is False for sample in row))


if __name__ == "__main__":
    unittest.main()
