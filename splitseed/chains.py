"""Steps that are made of steps, and steps made again of how they are told."""

from splitseed.errors import NoNumber, NoStep, NoWidth
from splitseed.steps import LEAST_WIDTH, Step, check_number, simple_step
from splitseed.words import is_within

MOST_LEVELS = 4
MOST_STEPS = 12
WIDEST_IMAGES = 10


def check_inner(thing):
    """Refuses any thing of which no step with one level more can be made."""
    if not isinstance(thing, Step) or thing.levels() >= MOST_LEVELS:
        raise NoStep(thing)


class Back(Step):
    """Leads onward as its step leads backward, and backward as that one leads onward."""

    def __init__(self, step):
        check_inner(step)
        self.step = step

    def onward(self, number, width):
        return self.step.backward(number, width)

    def backward(self, number, width):
        return self.step.onward(number, width)

    def told(self):
        return ("back", self.step.told())

    def words(self):
        return f"back {self.step.words()}"

    def levels(self):
        return 1 + self.step.levels()


class Chain(Step):
    """Leads onward by each of its steps in their order, and backward by the last one first."""

    def __init__(self, steps):
        if not isinstance(steps, (list, tuple)) or len(steps) > MOST_STEPS:
            raise NoStep(steps)
        for step in steps:
            check_inner(step)
        self.links = tuple(steps)

    def onward(self, number, width):
        check_number(number, width)
        led = number
        for step in self.links:
            led = step.onward(led, width)
        return led

    def backward(self, number, width):
        check_number(number, width)
        led = number
        for step in reversed(self.links):
            led = step.backward(led, width)
        return led

    def told(self):
        return ("chain", tuple(step.told() for step in self.links))

    def words(self):
        if self.links == ():
            return "chain ( )"
        inner = " ; ".join(step.words() for step in self.links)
        return f"chain ( {inner} )"

    def levels(self):
        return 1 + max([step.levels() for step in self.links], default=0)


def simple_or_none(word, number):
    """The simple step that is told so, or None."""
    try:
        return simple_step(word, number)
    except NoNumber:
        return None


def chain_or_none(told, room):
    """The chain of what is told so, of at most room levels, or None."""
    if not isinstance(told, tuple) or len(told) > MOST_STEPS:
        return None
    steps = [step_or_none(inner, room - 1) for inner in told]
    return None if None in steps else Chain(steps)


def step_or_none(told, room):
    """The step that is told so, of at most room levels, or None."""
    if room == 0 or not isinstance(told, tuple) or len(told) != 2:
        return None
    word, inner = told
    if word == "back":
        step = step_or_none(inner, room - 1)
        return None if step is None else Back(step)
    if word == "chain":
        return chain_or_none(inner, room)
    return simple_or_none(word, inner)


def step_of(told):
    """The step that tells this tuple, of any thing."""
    step = step_or_none(told, MOST_LEVELS)
    if step is None:
        raise NoStep(told)
    return step


def images(step, width):
    """What each number of a small width, from 0 on, is led onward to."""
    if not isinstance(step, Step):
        raise NoStep(step)
    if not is_within(width, LEAST_WIDTH, WIDEST_IMAGES):
        raise NoWidth(width)
    return [step.onward(number, width) for number in range(1 << width)]
