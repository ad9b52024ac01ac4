"""Whose a number is, and stretches of draws that meet or do not."""

from splitseed.errors import NoRow
from splitseed.kinds import alike
from splitseed.shapes import check_total
from splitseed.words import is_within

MOST_NUMBERS_TOLD = 1000


def origin_of(machine, number):
    """The seed, path and place of which a number is the state, or None; of any thing as number."""
    return machine.read_state(number)


def is_stretch(machine, thing):
    """Whether any thing is a stretch of the machine."""
    if not isinstance(thing, tuple) or len(thing) != 4:
        return False
    seed, path, place, many = thing
    if not machine.is_seed(seed) or not machine.is_path(path) or not is_within(place, 0, machine.length()):
        return False
    return is_within(many, 0, machine.length() - place)


def check_stretch(machine, thing):
    """Refuses any thing that is no stretch of the machine."""
    if not is_stretch(machine, thing):
        raise NoRow(thing)


def draws_along(machine, stretch):
    """All draws of a stretch, however many they are."""
    seed, path, place, many = stretch
    return [machine.state(seed, path, place + k) for k in range(many)]


def numbers_of(machine, stretch):
    """The draws of a stretch, in the order of their places; of any thing as stretch."""
    check_stretch(machine, stretch)
    check_total(stretch[3], MOST_NUMBERS_TOLD)
    return draws_along(machine, stretch)


def covers(machine, stretch, number):
    """Whether a number is one of the draws of a stretch, of any things as these."""
    check_stretch(machine, stretch)
    origin = origin_of(machine, number)
    if origin is None:
        return False
    seed, path, place, many = stretch
    return origin[0] == seed and origin[1] == path and place <= origin[2] < place + many


def beginning_alike(one, other):
    """With how many of the same numbers two paths begin."""
    many = 0
    while many < min(len(one), len(other)) and one[many] == other[many]:
        many += 1
    return many


def meeting(machine, one, other):
    """In what two stretches differ, or what places both have; of any things as stretches."""
    check_stretch(machine, one)
    check_stretch(machine, other)
    if one[0] != other[0]:
        return ("seed",)
    if one[1] != other[1]:
        # A digit behind a path's end is 0, and any other one is above, so the digits differ where one path ends, too.
        return ("path", beginning_alike(one[1], other[1]))
    first = max(one[2], other[2])
    end = min(one[2] + one[3], other[2] + other[3])
    return ("meets", first, end - first) if first < end else ("ends",)


def is_meeting(machine, one, other, thing):
    """Whether any thing is what meeting tells, of the same kinds in all its parts."""
    return alike(meeting(machine, one, other), thing)
