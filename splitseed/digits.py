"""Several numbers as one number: packed by widths, mixed by bases."""

from splitseed.errors import NoNumber
from splitseed.words import is_within


def check_below(thing, bound):
    """Refuses any thing that is no whole number from 0 to below the bound."""
    if not is_within(thing, 0, bound - 1):
        raise NoNumber(thing)


def packed(numbers, widths):
    """The number whose figures of two are those of the numbers, the first number's highest."""
    together = 0
    for number, width in zip(numbers, widths):
        check_below(number, 1 << width)
        together = (together << width) + number
    return together


def unpacked(number, widths):
    """The list of the numbers that are packed to this number."""
    check_below(number, 1 << sum(widths))
    numbers = []
    left = sum(widths)
    for width in widths:
        left -= width
        numbers.append((number >> left) % (1 << width))
    return numbers


def mixed(numbers, bases):
    """The number that comes of the numbers by bases; the last number changes fastest."""
    together = 0
    for number, base in zip(numbers, bases):
        check_below(number, base)
        together = together * base + number
    return together


def unmixed(number, bases):
    """The list of the numbers that are mixed to this number."""
    check_below(number, product(bases))
    numbers = []
    rest = number
    for base in reversed(bases):
        numbers.append(rest % base)
        rest = rest // base
    return numbers[::-1]


def product(bases):
    """What the bases come to, taken times one another; 1 of none."""
    together = 1
    for base in bases:
        together *= base
    return together
