"""Points 3, 4 and 20: a core of a row of samples."""

import itertools
import unittest

from leastform.cores import core
from tests.helper import Asking, model_told, spoil, thrown_row


def at(row, places):
    return [row[place] for place in places]


class Core(Asking):
    def hold(self, row):
        """The places, once it is seen that they are a core."""
        places = self.ask(core, row)
        self.assertIs(type(places), tuple)
        self.assertTrue(all(type(place) is int and 0 <= place < len(row) for place in places))
        self.assertEqual(list(places), sorted(set(places)))
        whole = model_told(row)
        self.assertEqual(model_told(at(row, places)), whole, row)
        for left_out in places:
            rest = [place for place in places if place != left_out]
            self.assertNotEqual(model_told(at(row, rest)), whole, f"{row} {left_out}")
        return places

    def test_of_none(self):
        self.told((), core, [])

    def test_of_one(self):
        for sample in (None, True, False, 0, 7, "", "a", [], [1, 2], {}, {"a": 1}, dict.fromkeys("abcdefghij", 1)):
            self.told((0,), core, [sample])

    def test_of_the_same_ones(self):
        for sample in (None, True, 1, "", [], {}, [1, "a"], {"a": [{}]}):
            for many in (2, 3, 9):
                self.assertEqual(len(self.hold([sample] * many)), 1)

    def test_all_are_needed(self):
        for row in ([1, True], [True, 1], [None, False, 0, "", [], {}], [True, False], [[], [1]], [{}, {"a": 1}], list("abcdef"),
                    [{name: 1} for name in "abcdefgh"], [[1], [True]], [{"a": 1}, {"a": True}]):
            self.assertEqual(self.hold(row), tuple(range(len(row))))

    def test_some_are_idle(self):
        for row, many in (
            ([1, 3, 1, 3], 2), ([0, 5, 10, 5, 0], 3), ([5, 0, 10], 3), ([0, 1, 2, 3], 3), ([1, 2], 2), ([[1], [2], [1]], 2),
            ([{"a": 1}, {}, {"a": 1}], 2), ([None, 1, None, True, 1, True], 3),
        ):
            self.assertEqual(len(self.hold(row)), many, row)

    def test_what_one_sample_tells_that_several_tell_too(self):
        # Of the first row (0,) and (1, 2) are both cores, and either may be told.
        self.hold([[1, 2], [1, 1], [2, 2]])
        self.hold([[1], [[2]], [1, [2]], [[1], 2]])
        self.hold([0, 6, 2, 4, 3])
        self.hold([[0], [6], [0, 6], [2, 4], [3, 3]])
        self.hold(list("abcdefghij"))
        self.hold([["a", "b", "c"], ["d", "e", "f"], ["g"], list("abcdefg"), ["aa"], [""]])
        self.hold([dict.fromkeys("abcde", 1), dict.fromkeys("fghij", 1), dict.fromkeys("abcdefghij", 1), {"a": 2}, {}])
        self.hold([{name: place} for place, name in enumerate("abcdefghijklm")])

    def test_all_orders(self):
        for samples in ([0, 2, 3, 6, 6], [{"a": 1}, {"b": 1}, {"a": 1, "b": 1}, {}, {"a": 1}],
                        [[1, 2], [1], [2], [], [2, 2]]):
            for row in itertools.permutations(samples):
                self.hold(list(row))

    def test_small_rows_of_numbers(self):
        for size in range(1, 5):
            for row in itertools.product(range(5), repeat=size):
                self.hold(list(row))

    def test_thrown_rows(self):
        for seed in range(80):
            self.hold(thrown_row(seed, 1 + seed % 15, 2 + seed % 3))

    def test_long_rows(self):
        self.hold([[place % 7, {"a" * (place % 13): place}] for place in range(60)])
        self.hold([place * place for place in range(60)])
        self.hold(["n" * place for place in range(60)])
        self.hold(thrown_row(7, 150, 2))

    def test_what_is_done_to_samples_changes_nothing_told(self):
        for seed in range(10):
            row = thrown_row(seed, 8)
            places = core(row)
            spoil(row)
            self.told(places, core, thrown_row(seed, 8))


class ByName(unittest.TestCase):
    def test_arguments_have_the_interface_s_names(self):
        self.assertEqual(core(samples=[None]), (0,))


if __name__ == "__main__":
    unittest.main()
