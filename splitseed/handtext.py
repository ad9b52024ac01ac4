"""Hands written as texts and read back."""

from splitseed.hands import hand_of
from splitseed.reading import number_at, sign_at, words_of

# Thirty figures; which of these numbers a hand may have, its machine tells.
GREATEST_WRITTEN = 10 ** 30 - 1


def show_hand(hand):
    """The text of a hand: seed, place and given, and for each number of its path this number and its stub."""
    words = [f"hand {hand.seed} {hand.place} {hand.given}"]
    for number, (place, first, many) in zip(hand.path, hand.stubs):
        words.append(f": {number} {place} {first} {many}")
    return " ".join(words)


def numbers_at(words, at, many):
    """So many numbers, the first of which stands here."""
    return tuple([number_at(words, at + k, 0, GREATEST_WRITTEN) for k in range(many)])


def read_hand(machine, text):
    """The hand of this machine that is written so, of any thing as text."""
    words = words_of(text)
    sign_at(words, 0, "hand")
    seed, place, given = numbers_at(words, 1, 3)
    path = []
    stubs = []
    for at in range(4, len(words), 5):
        sign_at(words, at, ":")
        number, *stub = numbers_at(words, at + 1, 4)
        path.append(number)
        stubs.append(tuple(stub))
    return hand_of(machine, (seed, tuple(path), place, given, tuple(stubs)))
