"""Papers of takings: checked without believing them, written as texts and read back."""

from splitseed.errors import NoPaper, NoText
from splitseed.kinds import alike
from splitseed.reading import number_at, sign_at, word_at, words_of
from splitseed.words import is_within

GREATEST_SEED = 2 ** 32 - 1
GREATEST_PART = 30
GREATEST_PLACE = 2 ** 16 - 1
GREATEST_STATE = 2 ** 64 - 1
MOST_PARTINGS = 6
MOST_STATES = 300


def is_of_machine(machine, paper):
    """Whether any thing is a tuple as papers of this machine are, with as many numbers as there may be places."""
    if not isinstance(paper, tuple) or len(paper) != 4:
        return False
    seed, path, place, numbers = paper
    if not machine.is_seed(seed) or not machine.is_path(path) or not machine.is_place(place):
        return False
    return isinstance(numbers, tuple) and 1 <= len(numbers) <= machine.length() - place


def are_drawn(machine, paper):
    """Whether the numbers of a paper are the draws of its seed and path from its place on."""
    seed, path, place, numbers = paper
    return all(alike(machine.state(seed, path, place + k), number) for k, number in enumerate(numbers))


def is_paper(machine, shape, paper, outcome):
    """Whether a paper shows that an outcome was taken, of any things as paper and outcome."""
    if shape.numbers() > 1 << machine.width:
        return False
    if not is_of_machine(machine, paper) or not are_drawn(machine, paper):
        return False
    outcomes = [shape.of(number, machine.width) for number in paper[3]]
    due = outcomes.pop()
    if due is None or any(other is not None for other in outcomes):
        return False
    return alike(due, outcome)


def are_within(thing, most, greatest):
    """Whether any thing is a tuple of at most so many whole numbers from 0 to the greatest."""
    if not isinstance(thing, tuple) or len(thing) > most:
        return False
    return all(is_within(number, 0, greatest) for number in thing)


def can_be_shown(thing):
    """Whether any thing is a paper of some machine, with so few numbers that it can be written."""
    if not isinstance(thing, tuple) or len(thing) != 4:
        return False
    seed, path, place, numbers = thing
    if not is_within(seed, 0, GREATEST_SEED) or not are_within(path, MOST_PARTINGS, GREATEST_PART):
        return False
    return is_within(place, 0, GREATEST_PLACE) and are_within(numbers, MOST_STATES, GREATEST_STATE) and len(numbers) > 0


def show_paper(paper):
    """The text of a paper, of any thing."""
    if not can_be_shown(paper):
        raise NoPaper(paper)
    seed, path, place, numbers = paper
    return " ".join([str(word) for word in ("paper", seed, place, ":") + path + (":",) + numbers])


def path_at(words, at):
    """The path whose first number, if it has one, stands here."""
    path = []
    while len(path) < MOST_PARTINGS and word_at(words, at + len(path)) != ":":
        path.append(number_at(words, at + len(path), 0, GREATEST_PART))
    return tuple(path)


def states_at(words, at):
    """The numbers of a paper, the first of which stands here and the last of which ends the words."""
    numbers = [number_at(words, at, 0, GREATEST_STATE)]
    for further in range(at + 1, len(words)):
        if len(numbers) == MOST_STATES:
            raise NoText(further)
        numbers.append(number_at(words, further, 0, GREATEST_STATE))
    return tuple(numbers)


def read_paper(text):
    """The paper that is written so, of any thing."""
    words = words_of(text)
    sign_at(words, 0, "paper")
    seed = number_at(words, 1, 0, GREATEST_SEED)
    place = number_at(words, 2, 0, GREATEST_PLACE)
    sign_at(words, 3, ":")
    path = path_at(words, 4)
    sign_at(words, 4 + len(path), ":")
    return (seed, path, place, states_at(words, 5 + len(path)))
