"""Points 2, 3, 4, 8 and 9: runs of numbers."""

import math
import unittest

from leastform.errors import NoPath, NoSamples
from leastform.runs import (
    is_run, run_at, run_has, run_joined, run_many, run_met, run_of, run_parted, run_within,
)
from tests.helper import Asking, anything

GREAT = 10 ** 59


def numbers_of(run):
    lo, hi, step = run
    return set(range(lo, hi + 1, step)) if step else {lo}


def all_runs(low, high):
    runs = [(lo, lo, 0) for lo in range(low, high + 1)]
    for lo in range(low, high + 1):
        for hi in range(lo + 1, high + 1):
            runs.extend((lo, hi, step) for step in range(1, hi - lo + 1) if (hi - lo) % step == 0)
    return runs


RUNS = all_runs(-4, 6)
FAR_RUNS = [
    (0, 0, 0), (-GREAT, -GREAT, 0), (GREAT, GREAT, 0), (-GREAT, GREAT, 1), (-GREAT, GREAT, 2 * GREAT),
    (0, GREAT, 10), (1, GREAT + 1, 10 ** 30), (0, 3 * 7 ** 60, 7 ** 60), (0, 3 * 7 ** 61, 3 * 7 ** 59),
    (-5, 10 ** 58 * 9 - 5, 9), (3, 3 + 10 ** 40 * 6, 6),
]


class IsRun(Asking):
    def test_runs(self):
        for run in RUNS + FAR_RUNS:
            self.told(True, is_run, run)
        for run in ((0, 10 ** 69, 1), (-10 ** 69, 10 ** 69, 2 * 10 ** 69), (10 ** 69, 10 ** 69, 0)):
            self.told(True, is_run, run)

    def test_all_small_triples(self):
        runs = set(all_runs(-3, 4))
        for lo in range(-3, 5):
            for hi in range(-3, 5):
                for step in range(-8, 9):
                    self.told((lo, hi, step) in runs, is_run, (lo, hi, step))

    def test_what_is_none(self):
        for thing in anything() + [None, True, False, 0, 1, GREAT, "", "a", "0, 0, 0", [], {}, [1, 1, 0], {"a": 1}]:
            self.told(False, is_run, thing)

    def test_lists_and_other_numbers_of_parts(self):
        for thing in ([0, 4, 2], [3, 3, 0], [(3, 3, 0)], ((3, 3, 0),), (), (3,), (3, 3), (0, 4), (0, 4, 2, 0),
                      (3, 3, 0, 0), (0, 4, 2, 2), {0: 0, 1: 4, 2: 2}, ("numbers", 0, 4, 2)):
            self.told(False, is_run, thing)

    def test_ends_exchanged_and_wrong_steps(self):
        for thing in ((4, 0, 2), (4, 0, -2), (4, 0, 0), (1, 0, 1), (0, 4, 0), (0, 4, -2), (0, 4, -1), (0, 4, 3),
                      (0, 4, 5), (0, 4, 8), (3, 3, 1), (3, 3, -1), (0, 0, 1), (0, 1, 2), (0, GREAT, 0),
                      (0, GREAT, 3), (GREAT, 0, 1), (0, GREAT, 2 * GREAT), (-GREAT, GREAT, 3)):
            self.told(False, is_run, thing)

    def test_parts_that_are_no_whole_numbers(self):
        self.told(True, is_run, (0, 1, 1))
        self.told(True, is_run, (1, 1, 0))
        for thing in ((False, True, True), (False, 1, 1), (0, True, 1), (0, 1, True), (True, True, False), (1, 1, False),
                      (True, 1, 0), (1, True, 0), (0, 0, False), (False, 0, 0), (0, 2, True), (-1, True, 2)):
            self.told(False, is_run, thing)
        for part in (None, "", "1", (), (1,), [], [1], {}, {"a": 1}):
            for thing in ((part, 4, 2), (0, part, 2), (0, 4, part), (part, part, 0), (part, part, part), (3, 3, part)):
                self.told(False, is_run, thing)


class RunOf(Asking):
    def test_one_number(self):
        for number in (0, 1, -1, 17, GREAT, -GREAT):
            self.told((number, number, 0), run_of, [number])
            self.told((number, number, 0), run_of, [number] * 3)

    def test_more_numbers(self):
        for numbers, run in (
            ([1, 2], (1, 2, 1)), ([2, 1], (1, 2, 1)), ([0, 4], (0, 4, 4)), ([4, 0, 6], (0, 6, 2)),
            ([3, 9, 3, 9, 6], (3, 9, 3)), ([-5, 5], (-5, 5, 10)), ([5, 0, -5], (-5, 5, 5)), ([-7, -1, -4], (-7, -1, 3)),
            ([10, 4, 19], (4, 19, 3)), ([0, 6, 10, 15], (0, 15, 1)), ([1, 7, 11, 16], (1, 16, 1)),
            ([6, 10, 15], (6, 15, 1)), ([12, 30, 48], (12, 48, 18)), ([-3, 0, 12], (-3, 12, 3)),
            ([2, 2, 2, 8], (2, 8, 6)), ([8, 2, 2], (2, 8, 6)), (list(range(300, 0, -1)), (1, 300, 1)),
        ):
            self.told(run, run_of, numbers)

    def test_numbers_of_sixty_figures(self):
        self.told((-GREAT, GREAT, 2 * GREAT), run_of, [GREAT, -GREAT])
        self.told((-GREAT, GREAT, GREAT), run_of, [GREAT, 0, -GREAT, 0])
        self.told((0, 9 * GREAT, 3 * GREAT), run_of, [9 * GREAT, 3 * GREAT, 0])
        self.told((1, GREAT + 1, 1), run_of, [GREAT, 1, GREAT + 1])
        top = 10 ** 60 - 1
        self.told((-top, top, 2 * top), run_of, [top, -top])
        self.told((7, 7 + 35 * 10 ** 50, 5 * 10 ** 50), run_of, [7 + 35 * 10 ** 50, 7, 7 + 10 * 10 ** 50])

    def test_none(self):
        self.refused(NoSamples, run_of, [])

    def test_the_least_run_that_has_them(self):
        for numbers in ([0], [0, 1], [-4, 6], [2, 6, 4], [-4, -1, 5], [-3, 1, 5, 1], [6, -4, 1], [5, 3, -1, 1], [0, 3, 5]):
            run = self.ask(run_of, numbers)
            self.assertIn(run, RUNS)
            self.assertTrue(set(numbers) <= numbers_of(run))
            for other in RUNS:
                if set(numbers) <= numbers_of(other):
                    self.assertTrue(numbers_of(run) <= numbers_of(other))

    def test_a_run_is_the_run_of_its_numbers(self):
        for run in RUNS:
            numbers = sorted(numbers_of(run))
            self.told(run, run_of, numbers)
            self.told(run, run_of, numbers[::-1] + numbers)

    def test_asked_again_behind_a_change(self):
        numbers = [4, 2]
        self.told((2, 4, 2), run_of, numbers)
        numbers.append(5)
        self.told((2, 5, 1), run_of, numbers)
        self.assertEqual(numbers, [4, 2, 5])


class NumbersOfARun(Asking):
    def test_how_many(self):
        for run in RUNS:
            self.told(len(numbers_of(run)), run_many, run)
        for run, many in (((0, GREAT, 1), GREAT + 1), ((-GREAT, GREAT, 1), 2 * GREAT + 1), ((GREAT, GREAT, 0), 1),
                          ((-GREAT, GREAT, 2 * GREAT), 2), ((0, GREAT, 10 ** 30), 10 ** 29 + 1)):
            self.told(many, run_many, run)

    def test_the_number_at_each_place(self):
        for run in RUNS:
            numbers = sorted(numbers_of(run))
            for place, number in enumerate(numbers):
                self.told(number, run_at, run, place)
            for place in (-len(numbers) - 1, -len(numbers), -1, len(numbers), len(numbers) + 1, GREAT, -GREAT):
                self.refused(NoPath, run_at, run, place)

    def test_the_number_at_a_place_far_out(self):
        run = (-GREAT, GREAT, 2)
        self.told(-GREAT, run_at, run, 0)
        self.told(GREAT, run_at, run, GREAT)
        self.told(GREAT - 2, run_at, run, GREAT - 1)
        self.refused(NoPath, run_at, run, GREAT + 1)
        self.refused(NoPath, run_at, run, -1)

    def test_has(self):
        for run in RUNS:
            for number in range(-9, 12):
                self.told(number in numbers_of(run), run_has, run, number)

    def test_has_far_out(self):
        run = (1, 1 + 7 * 10 ** 58, 7)
        for number, has in ((1, True), (8, True), (7, False), (0, False), (-6, False), (1 + 7 * 10 ** 58, True),
                            (8 + 7 * 10 ** 58, False), (1 + 7 * 10 ** 57, True), (2 + 7 * 10 ** 57, False)):
            self.told(has, run_has, run, number)
        self.told(True, run_has, (GREAT, GREAT, 0), GREAT)
        self.told(False, run_has, (GREAT, GREAT, 0), GREAT + 1)
        self.told(False, run_has, (GREAT, GREAT, 0), GREAT - 1)


class TwoRuns(Asking):
    def test_within(self):
        for one in RUNS:
            for other in RUNS:
                self.assertIs(run_within(one, other), numbers_of(one) <= numbers_of(other), f"{one} {other}")

    def test_parted(self):
        for one in RUNS:
            for other in RUNS:
                has = numbers_of(other)
                missing = [number for number in (one[0], one[1], one[0] + one[2]) if number not in has]
                self.assertEqual(run_parted(one, other), missing[0] if missing else None, f"{one} {other}")

    def test_parted_by_the_first_of_three(self):
        for one, other, number in (
            ((0, 4, 2), (1, 5, 2), 0), ((0, 4, 2), (2, 6, 2), 0), ((0, 6, 3), (0, 3, 3), 6), ((0, 4, 2), (0, 4, 4), 2),
            ((0, 6, 2), (0, 6, 3), 2), ((0, 9, 1), (0, 9, 9), 1), ((0, 4, 2), (0, 4, 1), None), ((3, 3, 0), (4, 4, 0), 3),
            ((3, 3, 0), (0, 9, 3), None), ((0, 9, 3), (3, 3, 0), 0), ((0, 3, 3), (0, 0, 0), 3),
            ((0, GREAT, 1), (0, GREAT, GREAT), 1), ((0, GREAT, 5), (0, GREAT, 1), None),
            ((0, GREAT, 1), (0, GREAT - 1, 1), GREAT), ((-GREAT, GREAT, 1), (0, GREAT, 1), -GREAT),
        ):
            self.told(number, run_parted, one, other)
            self.told(number is None, run_within, one, other)

    def test_within_far_out(self):
        for one in FAR_RUNS:
            self.told(True, run_within, one, one)
            self.told(None, run_parted, one, one)
        self.told(True, run_within, (0, 6 * 10 ** 58, 6), (-3, 9 * 10 ** 58, 3))
        self.told(False, run_within, (0, 6 * 10 ** 58, 6), (-4, 8 * 10 ** 58, 4))

    def test_joined(self):
        for one in RUNS:
            for other in RUNS:
                run = run_joined(one, other)
                both = numbers_of(one) | numbers_of(other)
                self.assertEqual(run, run_of(sorted(both)), f"{one} {other}")
                self.assertIs(type(run), tuple)

    def test_joined_by_hand(self):
        for one, other, run in (
            ((3, 3, 0), (3, 3, 0), (3, 3, 0)), ((3, 3, 0), (5, 5, 0), (3, 5, 2)), ((5, 5, 0), (3, 3, 0), (3, 5, 2)),
            ((0, 4, 4), (2, 2, 0), (0, 4, 2)), ((0, 6, 3), (1, 7, 3), (0, 7, 1)), ((0, 8, 4), (6, 18, 6), (0, 18, 2)),
            ((0, 4, 2), (10, 14, 4), (0, 14, 2)), ((-9, -3, 3), (3, 9, 6), (-9, 9, 3)),
            ((0, GREAT, GREAT), (-GREAT, -GREAT, 0), (-GREAT, GREAT, GREAT)),
            ((0, GREAT, 10 ** 20), (10 ** 18, 10 ** 18, 0), (0, GREAT, 10 ** 18)),
            ((-GREAT, GREAT, 2), (1 - GREAT, 1 - GREAT, 0), (-GREAT, GREAT, 1)),
        ):
            self.told(run, run_joined, one, other)
            self.told(run, run_joined, other, one)

    def test_met(self):
        for one in RUNS:
            for other in RUNS:
                both = sorted(numbers_of(one) & numbers_of(other))
                expected = run_of(both) if both else None
                self.assertEqual(run_met(one, other), expected, f"{one} {other}")

    def test_met_with_wider_steps(self):
        wide = [(lo, lo + step * times, step) for lo in (-7, 0, 5) for step in (4, 6, 9, 10, 15) for times in (1, 4, 11)]
        for one in wide:
            for other in wide:
                both = sorted(numbers_of(one) & numbers_of(other))
                run = self.ask(run_met, one, other)
                self.assertEqual(run is None, not both)
                if run is not None:
                    self.assertIs(is_run(run), True)
                    self.assertEqual(numbers_of(run), set(both))

    def test_met_by_hand(self):
        for one, other, run in (
            ((3, 3, 0), (3, 3, 0), (3, 3, 0)), ((3, 3, 0), (4, 4, 0), None), ((3, 3, 0), (0, 9, 3), (3, 3, 0)),
            ((4, 4, 0), (0, 9, 3), None), ((0, 4, 2), (1, 5, 2), None), ((0, 4, 1), (5, 9, 1), None),
            ((0, 4, 1), (4, 9, 1), (4, 4, 0)), ((0, 12, 4), (0, 18, 6), (0, 12, 12)), ((0, 30, 6), (1, 31, 10), None),
            ((0, 30, 6), (2, 32, 10), (12, 12, 0)), ((0, 10, 2), (5, 20, 5), (10, 10, 0)),
            ((0, 100, 7), (0, 100, 5), (0, 70, 35)), ((1, 100, 9), (3, 99, 8), (19, 91, 72)), ((0, 5, 5), (2, 7, 5), None),
            ((-10, 10, 4), (-9, 9, 3), (-6, 6, 12)), ((-10, 10, 5), (-4, 4, 2), (0, 0, 0)),
        ):
            self.told(run, run_met, one, other)
            self.told(run, run_met, other, one)

    def test_met_far_out(self):
        one_step, other_step = 10 ** 29, 10 ** 29 + 1
        both = one_step * other_step
        one, other = (0, 10 ** 30 * one_step, one_step), (0, 10 ** 30 * other_step, other_step)
        self.told((0, 9 * both, both), run_met, one, other)
        self.told((0, GREAT, GREAT), run_met, (0, GREAT, 1), (-GREAT, GREAT, GREAT))
        self.told(None, run_met, (0, GREAT, 2), (1, GREAT - 1, 2))
        self.told((6, 6 * 10 ** 58, 6), run_met, (0, 6 * 10 ** 58, 2), (3, 6 * 10 ** 58 + 3, 3))
        self.told((GREAT, GREAT, 0), run_met, (0, GREAT, 1), (GREAT, 2 * GREAT, 1))
        self.told(None, run_met, (0, GREAT, 1), (GREAT + 1, 2 * GREAT, 1))
        self.told((-GREAT, GREAT, 2 * GREAT), run_met, (-GREAT, GREAT, 2 * GREAT), (-GREAT, GREAT, 1))

    def test_met_of_great_steps(self):
        meeting = 10 ** 58 + 12345
        for one_step in (2 ** 90, 3 ** 50, 10 ** 25 + 7, 6 ** 30):
            for other_step in (2 ** 80 * 3, 10 ** 24, 7 ** 30, 6 ** 31):
                step = math.lcm(one_step, other_step)
                down, up = 10 ** 58 // step, 10 ** 59 // step
                one = (meeting - one_step * (10 ** 58 // one_step), meeting + step * up, one_step)
                other = (meeting - step * down, meeting + other_step * (10 ** 59 // other_step), other_step)
                self.told((meeting - step * down, meeting + step * up, step), run_met, one, other)
                self.told((meeting - step * down, meeting + step * up, step), run_met, other, one)
                self.told(None, run_met, one, (other[1] + other_step, other[1] + 2 * other_step, other_step))

    def test_nothing_is_kept(self):
        self.told((0, 6, 6), run_met, (0, 6, 2), (0, 6, 3))
        self.told((0, 6, 1), run_joined, (0, 6, 2), (0, 6, 3))
        self.told((0, 6, 6), run_met, (0, 6, 2), (0, 6, 3))


class ByName(unittest.TestCase):
    def test_arguments_have_the_interface_s_names(self):
        run = (0, 4, 2)
        self.assertIs(is_run(thing=run), True)
        self.assertEqual(run_of(numbers=[4, 2, 0]), run)
        self.assertEqual(run_many(run=run), 3)
        self.assertEqual(run_at(run=run, place=1), 2)
        self.assertIs(run_has(run=run, number=3), False)
        self.assertIs(run_within(one=run, other=(0, 4, 1)), True)
        self.assertEqual(run_joined(one=run, other=(1, 1, 0)), (0, 4, 1))
        self.assertEqual(run_met(one=run, other=(4, 5, 1)), (4, 4, 0))
        self.assertEqual(run_parted(one=run, other=(4, 5, 1)), 0)


if __name__ == "__main__":
    unittest.main()
