"""Shapes read from their words."""

from splitseed.errors import NoText
from splitseed.orders import MOST_RANKED
from splitseed.reading import check_end, number_at, sign_at, word_at, words_of
from splitseed.sets import MOST_CHOICE
from splitseed.shapeforms import GREATEST_HEIGHT, MOST_TIMES
from splitseed.shapes import MOST_NUMBERS, shape_of
from splitseed.shares import GREATEST_SHARE, MOST_SHARES
from splitseed.words import plain_number


def is_share_at(words, at):
    """Whether a further share stands here."""
    return at < len(words) and plain_number(words[at], GREATEST_SHARE) is not None


def shares_at(words, at):
    """What is told of the shares the first of which stands here, and the number of the word behind them."""
    shares = []
    while not any(shares):
        # The last share that may be is the last one that can be above 0.
        least = 1 if len(shares) == MOST_SHARES - 1 else 0
        shares.append(number_at(words, at, least, GREATEST_SHARE))
        at += 1
    while len(shares) < MOST_SHARES and is_share_at(words, at):
        shares.append(number_at(words, at, 0, GREATEST_SHARE))
        at += 1
    return ("shares", tuple(shares)), at


def inner_at(words, at, room):
    """What is told of the shape within the bracket here, and the number of the word behind the bracket's end."""
    sign_at(words, at, "(")
    told, behind = shape_at(words, at + 1, room)
    sign_at(words, behind, ")")
    return told, behind + 1


def flat_at(words, at):
    """What is told of the shape here, which is made of no other shape, and the number of the word behind it."""
    word = word_at(words, at)
    if word == "below":
        return ("below", number_at(words, at + 1, 1, MOST_NUMBERS)), at + 2
    if word == "shares":
        return shares_at(words, at + 1)
    if word == "orders":
        return ("orders", number_at(words, at + 1, 0, MOST_RANKED)), at + 2
    if word == "sets":
        many = number_at(words, at + 1, 0, MOST_CHOICE)
        return ("sets", many, number_at(words, at + 2, 0, many)), at + 3
    raise NoText(at)


def shape_at(words, at, room):
    """What is told of the shape here, of at most the height room, and the number of the word behind it."""
    word = word_at(words, at)
    if word == "pair" and room > 0:
        one, behind = inner_at(words, at + 1, room - 1)
        other, behind = inner_at(words, behind, room - 1)
        return ("pair", one, other), behind
    if word == "rows" and room > 0:
        many = number_at(words, at + 1, 0, MOST_TIMES)
        told, behind = inner_at(words, at + 2, room - 1)
        return ("rows", told, many), behind
    return flat_at(words, at)


def read_shape(text):
    """The shape that is written so, of any thing."""
    words = words_of(text)
    told, behind = shape_at(words, 0, GREATEST_HEIGHT)
    check_end(words, behind)
    return shape_of(told)
