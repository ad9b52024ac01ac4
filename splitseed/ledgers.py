"""Ledgers of all numbers that a plan draws, and by whom."""

from splitseed.alone import alone
from splitseed.origins import draws_along, origin_of
from splitseed.trees import name_at

DRAWING_ROWS = ("draw", "take", "shuffle")


def ledger(machine, seed, plan):
    """For each row that draws, hand by hand, its name, its number, where it begins, and all numbers drawn by it."""
    entries = []
    for name in plan.names():
        papers = alone(machine, seed, plan, name)[1]
        for at, row in enumerate(plan.rows_of(name)):
            if row[0] in DRAWING_ROWS:
                path, place, used = papers[at]
                entries.append((name, at, place, tuple(draws_along(machine, (seed, path, place, used)))))
    return entries


def whose(machine, seed, plan, number):
    """The name of the hand to which a number belongs and its place there, or None; of any things as seed and number."""
    machine.check_seed(seed)
    origin = origin_of(machine, number)
    if origin is None or origin[0] != seed:
        return None
    name = name_at(plan, origin[1])
    return None if name is None else (name, origin[2])


def drawn_by(machine, seed, plan, number):
    """The name, the row and the place of the draw of a number, or None; of any things as seed and number."""
    machine.check_seed(seed)
    machine.check_state(number)
    for name, at, place, numbers in ledger(machine, seed, plan):
        if number in numbers:
            return (name, at, place + numbers.index(number))
    return None
