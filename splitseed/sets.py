"""Sets of one size out of so many things, and their ranks."""

from splitseed.errors import NoSet
from splitseed.steps import check_within
from splitseed.words import is_within

MOST_CHOICE = 60


def is_set(many, thing):
    """Whether any thing is a set out of so many."""
    if not isinstance(thing, (list, tuple)):
        return False
    least = 0
    for number in thing:
        if not is_within(number, least, many - 1):
            return False
        least = number + 1
    return True


def check_set(many, thing):
    """Refuses what is no number of things, then any thing that is no set out of so many."""
    check_within(many, 0, MOST_CHOICE)
    if not is_set(many, thing):
        raise NoSet(thing)


def sets_many(many, size):
    """How many sets of this size out of so many there are."""
    check_within(many, 0, MOST_CHOICE)
    check_within(size, 0, MOST_CHOICE)
    sets = 1
    for k in range(size):
        # What comes of k + 1 numbers beside one another is always taken k + 1 times, so there is no rest.
        sets = sets * (many - k) // (k + 1)
    return sets


def set_at(many, size, rank):
    """The set of this size out of so many that has this rank."""
    check_within(rank, 0, sets_many(many, size) - 1)
    chosen = []
    rest = rank
    number = 0
    while len(chosen) < size:
        # So many sets go on with this number; all of them come ahead of those without it.
        with_it = sets_many(many - number - 1, size - len(chosen) - 1)
        if rest < with_it:
            chosen.append(number)
        else:
            rest -= with_it
        number += 1
    return tuple(chosen)


def set_rank(many, told):
    """How many sets of the same size out of so many are less than this one."""
    check_set(many, told)
    rank = 0
    number = 0
    for at, chosen in enumerate(told):
        while number < chosen:
            rank += sets_many(many - number - 1, len(told) - at - 1)
            number += 1
        number += 1
    return rank


def next_set(many, told):
    """The set of the same size whose rank is one greater, or None of the last one."""
    check_set(many, told)
    at = len(told) - 1
    while at >= 0 and told[at] == many - len(told) + at:
        at -= 1
    if at < 0:
        return None
    first = told[at] + 1
    return tuple(told[:at]) + tuple(range(first, first + len(told) - at))
