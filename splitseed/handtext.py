"""Hands written as texts and read back."""

from splitseed.errors import NoText
from splitseed.hands import hand_of
from splitseed.words import plain_number

# Thirty figures; which of these numbers a hand may have, its machine tells.
GREATEST_WRITTEN = 10 ** 30 - 1
HEAD_WORDS = 4
LINK_WORDS = 5


def show_hand(hand):
    """The text of a hand: seed, place and given, and for each number of its path this number and its stub."""
    words = [f"hand {hand.seed} {hand.place} {hand.given}"]
    for number, (place, first, many) in zip(hand.path, hand.stubs):
        words.append(f": {number} {place} {first} {many}")
    return " ".join(words)


def sign_due(at):
    """The word that is no number and that must stand at this place; None where a number must stand."""
    if at == 0:
        return "hand"
    return ":" if at >= HEAD_WORDS and (at - HEAD_WORDS) % LINK_WORDS == 0 else None


def number_at(word, at):
    """The number that this word writes; None of a sign that is due here."""
    sign = sign_due(at)
    if sign is not None:
        if word != sign:
            raise NoText(at)
        return None
    number = plain_number(word, GREATEST_WRITTEN)
    if number is None:
        raise NoText(at)
    return number


def told_by(numbers):
    """The tuple that a hand tells, of the numbers that its words write, signs among them."""
    path = []
    stubs = []
    for at in range(HEAD_WORDS, len(numbers), LINK_WORDS):
        path.append(numbers[at + 1])
        stubs.append((numbers[at + 2], numbers[at + 3], numbers[at + 4]))
    return (numbers[1], tuple(path), numbers[2], numbers[3], tuple(stubs))


def read_hand(machine, text):
    """The hand of this machine that is written so, of any thing as text."""
    if not isinstance(text, str):
        raise NoText(0)
    words = text.split(" ")
    numbers = [number_at(word, at) for at, word in enumerate(words)]
    # A text may end only where the next word would begin a further number of the path.
    if sign_due(len(words)) != ":":
        raise NoText(len(words))
    return hand_of(machine, told_by(numbers))
