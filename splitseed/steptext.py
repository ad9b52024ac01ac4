"""Steps read from their words."""

from splitseed.chains import MOST_LEVELS, MOST_STEPS, Back, Chain
from splitseed.errors import NoNumber, NoText
from splitseed.reading import check_end, number_at, sign_at, word_at, words_of
from splitseed.steps import GREATEST_NUMBER, SIMPLE_WORDS, simple_step


def simple_at(words, at):
    """The simple step whose words begin here, and the number of the word behind it."""
    word = word_at(words, at)
    if word not in SIMPLE_WORDS:
        raise NoText(at)
    number = number_at(words, at + 1, 0, GREATEST_NUMBER)
    try:
        return simple_step(word, number), at + 2
    except NoNumber:
        raise NoText(at + 1) from None


def chain_at(words, at, room):
    """The chain whose bracket stands here, of at most room levels, and the number of the word behind it."""
    sign_at(words, at, "(")
    at += 1
    if word_at(words, at) == ")":
        return Chain([]), at + 1
    steps = []
    while True:
        step, at = step_at(words, at, room - 1)
        steps.append(step)
        sign = word_at(words, at)
        if sign == ")":
            return Chain(steps), at + 1
        # Behind the twelfth step no further one can come, so nothing that would part it off either.
        if sign != ";" or len(steps) == MOST_STEPS:
            raise NoText(at)
        at += 1


def step_at(words, at, room):
    """The step whose words begin here, of at most room levels, and the number of the word behind it."""
    word = word_at(words, at)
    if room == 0:
        raise NoText(at)
    if word == "chain":
        return chain_at(words, at + 1, room)
    if word == "back" and room > 1:
        step, behind = step_at(words, at + 1, room - 1)
        return Back(step), behind
    return simple_at(words, at)


def read_step(text):
    """The step that is written so, of any thing."""
    words = words_of(text)
    step, behind = step_at(words, 0, MOST_LEVELS)
    check_end(words, behind)
    return step
