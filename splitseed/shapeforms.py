"""What shapes may be made of, and the form of the nested tuples that they tell."""

from splitseed.orders import MOST_RANKED
from splitseed.sets import MOST_CHOICE
from splitseed.shares import are_shares
from splitseed.words import is_whole, is_within

GREATEST_HEIGHT = 3
MOST_TIMES = 12


def is_bound(thing):
    """Whether any thing is a bound, however great."""
    return is_whole(thing) and thing >= 1


def is_sets_form(many, size):
    """Whether a set of this size out of so many may be asked for."""
    return is_within(many, 0, MOST_CHOICE) and is_within(size, 0, many)


def is_flat_form(told):
    """Whether a tuple is what a shape tells that is made of no other shape."""
    if len(told) == 3:
        return told[0] == "sets" and is_sets_form(told[1], told[2])
    if len(told) != 2:
        return False
    word, inner = told
    if word == "below":
        return is_bound(inner)
    if word == "shares":
        return isinstance(inner, tuple) and are_shares(inner)
    return word == "orders" and is_within(inner, 0, MOST_RANKED)


def is_form(told, room):
    """Whether any thing is built as what a shape of at most the height room tells, however many numbers that has."""
    if not isinstance(told, tuple) or len(told) == 0:
        return False
    if told[0] != "pair" and told[0] != "rows":
        return is_flat_form(told)
    if room == 0 or len(told) != 3 or not is_form(told[1], room - 1):
        return False
    if told[0] == "pair":
        return is_form(told[2], room - 1)
    return is_within(told[2], 0, MOST_TIMES)
