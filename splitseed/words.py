"""Whole numbers, names, the own words, and numbers that are plainly written."""

FIGURES = "0123456789"
LETTERS = "abcdefghijklmnopqrstuvwxyz"
LONGEST_NAME = 8
OWN_WORDS = (
    "plus", "times", "cross", "fold", "rise", "turn", "lean", "back", "chain", "machine", "hand", "below", "shares",
    "orders", "sets", "pair", "rows", "draw", "take", "shuffle", "jump", "part", "join", "serve", "seed", "show",
    "house",
)


def is_whole(thing):
    """Whether any thing is a whole number; a truth is none."""
    return isinstance(thing, int) and not isinstance(thing, bool)


def is_within(thing, low, high):
    """Whether any thing is a whole number from low to high, both within."""
    return is_whole(thing) and low <= thing <= high


def is_name(thing):
    """Whether any thing is a name."""
    if not isinstance(thing, str) or not 1 <= len(thing) <= LONGEST_NAME:
        return False
    return all(sign in LETTERS for sign in thing) and thing not in OWN_WORDS


def own_words():
    """The own words of this language, in their order."""
    return list(OWN_WORDS)


def plain_number(thing, most):
    """The number from 0 to most that any thing plainly writes, or None."""
    if not isinstance(thing, str) or thing == "":
        return None
    if thing[0] == "0" and thing != "0":
        return None
    number = 0
    for sign in thing:
        if sign not in FIGURES:
            return None
        number = number * 10 + FIGURES.index(sign)
        # Further figures only make it greater, and there may be ten thousand of them.
        if number > most:
            return None
    return number
