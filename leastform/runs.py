"""Runs of whole numbers: tuples (lo, hi, step), reckoned with by their ends and steps alone."""

from leastform.errors import NoPath, NoSamples
from leastform.values import is_whole


def is_run(thing):
    if not isinstance(thing, tuple) or len(thing) != 3 or not all([is_whole(part) for part in thing]):
        return False
    lo = thing[0]
    hi = thing[1]
    step = thing[2]
    if lo == hi:
        return step == 0
    return lo < hi and step >= 1 and (hi - lo) % step == 0


def divisor_of(one, other):
    while other != 0:
        rest = one % other
        one = other
        other = rest
    return one


def run_of(numbers):
    if len(numbers) == 0:
        raise NoSamples("no numbers, so no run")
    lo = min(numbers)
    # The divisor of 0 and another is the other, so of one number alone the step stays 0.
    step = 0
    for number in numbers:
        step = divisor_of(number - lo, step)
    return (lo, max(numbers), step)


def run_many(run):
    if run[2] == 0:
        return 1
    return (run[1] - run[0]) // run[2] + 1


def run_at(run, place):
    if place < 0 or place >= run_many(run):
        raise NoPath("no number of the run at this place")
    return run[0] + place * run[2]


def run_has(run, number):
    if run[2] == 0:
        return number == run[0]
    return run[0] <= number <= run[1] and (number - run[0]) % run[2] == 0


# These three tell all: a run has them just where the run that they come from is within it.
def telling_numbers(run):
    return [run[0], run[1], run[0] + run[2]]


def run_parted(one, other):
    for number in telling_numbers(one):
        if not run_has(other, number):
            return number
    return None


def run_within(one, other):
    return run_parted(one, other) is None


def run_joined(one, other):
    return run_of(telling_numbers(one) + telling_numbers(other))


# By Euclid's way, keeping beside each rest the factor of number that leaves it: a walk through
# the factors would take as many steps as there are numbers below modulus.
def inverse_of(number, modulus):
    rest = number % modulus
    factor = 1
    last_rest = modulus
    last_factor = 0
    while rest != 0:
        quotient = last_rest // rest
        new_rest = last_rest - quotient * rest
        new_factor = last_factor - quotient * factor
        last_rest = rest
        last_factor = factor
        rest = new_rest
        factor = new_factor
    return last_factor % modulus


# Runs of more than one number each, met as if they went on without end: the first number of one,
# from its lo on, that other's steps lead to as well, forth or back; None where none do.
def first_meeting(one, other):
    divisor = divisor_of(one[2], other[2])
    gap = other[0] - one[0]
    if gap % divisor != 0:
        return None
    modulus = other[2] // divisor
    places = (gap // divisor) * inverse_of(one[2] // divisor, modulus) % modulus
    return one[0] + places * one[2]


def steps_met(one, other):
    meeting = first_meeting(one, other)
    if meeting is None:
        return None
    step = one[2] // divisor_of(one[2], other[2]) * other[2]
    lo = max(one[0], other[0])
    hi = min(one[1], other[1])
    lo = lo + (meeting - lo) % step
    if lo > hi:
        return None
    hi = hi - (hi - meeting) % step
    return (lo, hi, step if lo < hi else 0)


def run_met(one, other):
    if one[2] == 0:
        return one if run_has(other, one[0]) else None
    if other[2] == 0:
        return other if run_has(one, other[0]) else None
    return steps_met(one, other)
