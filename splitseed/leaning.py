"""How far outcomes lean, and how far not: exchanges gone through, rests by a bound, and shapes below a bound."""

from splitseed.errors import NoWidth
from splitseed.orders import by_numbers
from splitseed.shapes import MOST_NUMBERS, check_total
from splitseed.steps import LEAST_WIDTH, check_width, check_within
from splitseed.words import is_within

MOST_EXCHANGED = 6
GREATEST_BOUND = 4096
WIDEST_COUNTED = 12


def rows_of_numbers(many):
    """All rows of numbers by which so many things, one or more, are exchanged."""
    rows = [[]]
    for bound in range(many, 1, -1):
        rows = [row + [number] for row in rows for number in range(bound)]
    return rows


def swaps_tally(many):
    """How often each order of so many things comes of all rows of numbers by exchanges, by the orders' ranks."""
    check_within(many, 0, MOST_EXCHANGED)
    if many == 0:
        return [((), 1)]
    times = {}
    for row in rows_of_numbers(many):
        order = by_numbers(row)
        times[order] = times.get(order, 0) + 1
    return sorted(times.items())


def leaning(bound, width):
    """For each rest by the bound, of how many states of the width it is the rest."""
    check_within(bound, 1, GREATEST_BOUND)
    if not is_within(width, LEAST_WIDTH, WIDEST_COUNTED):
        raise NoWidth(width)
    times, over = divmod(1 << width, bound)
    return [times + 1] * over + [times] * (bound - over)


def most_leaning(bound, width):
    """How much the greatest number of leaning is above the least one."""
    times = leaning(bound, width)
    return max(times) - min(times)


def fair(bound, width):
    """How many states of the width lead to each number below the bound by a shape, and how many are thrown away."""
    check_within(bound, 1, MOST_NUMBERS)
    check_width(width)
    check_total(bound, 1 << width)
    return divmod(1 << width, bound)
