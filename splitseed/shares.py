"""Shares: each share has as many numbers as it tells, one share's behind the other's."""

from splitseed.errors import NoShares
from splitseed.steps import check_within
from splitseed.words import is_within

MOST_SHARES = 60
GREATEST_SHARE = 1000000


def are_shares(thing):
    """Whether any thing is shares."""
    if not isinstance(thing, (list, tuple)) or len(thing) > MOST_SHARES:
        return False
    return all(is_within(share, 0, GREATEST_SHARE) for share in thing) and any(thing)


def check_shares(thing):
    """Refuses any thing that is no shares."""
    if not are_shares(thing):
        raise NoShares(thing)


def shares_many(shares):
    """How many numbers there are."""
    check_shares(shares)
    return sum(shares)


def share_and_rest(shares, number):
    """The share of which a number is, and how many numbers of this share are ahead of it."""
    check_within(number, 0, shares_many(shares) - 1)
    at = 0
    rest = number
    while rest >= shares[at]:
        rest -= shares[at]
        at += 1
    return (at, rest)


def share_at(shares, number):
    """Of which share a number is."""
    return share_and_rest(shares, number)[0]


def rest_in(shares, number):
    """How many numbers of its share are ahead of a number."""
    return share_and_rest(shares, number)[1]


def first_of(shares, at):
    """What the shares ahead of one come to together."""
    check_shares(shares)
    check_within(at, 0, len(shares) - 1)
    return sum(shares[:at])


def number_of(shares, at, rest):
    """The number that is of this share and has this rest."""
    first = first_of(shares, at)
    check_within(rest, 0, shares[at] - 1)
    return first + rest
