"""The words of a text, gone one by one; what cannot stand is refused by the number of its word."""

from splitseed.errors import NoText
from splitseed.words import plain_number


def words_of(text):
    """The words of any thing as text, parted at each blank."""
    if not isinstance(text, str):
        raise NoText(0)
    return text.split(" ")


def word_at(words, at):
    """The word of this number; refused where the words have come to their end."""
    if at == len(words):
        raise NoText(at)
    return words[at]


def sign_at(words, at, sign):
    """Refuses any other word than this sign."""
    if word_at(words, at) != sign:
        raise NoText(at)


def number_at(words, at, low, high):
    """The number from low to high that the word of this number plainly writes."""
    number = plain_number(word_at(words, at), high)
    if number is None or number < low:
        raise NoText(at)
    return number


def check_end(words, at):
    """Refuses a word of this number, where there is one."""
    if at < len(words):
        raise NoText(at)
