"""Machines, which lead spots of seed, path and place to states and back."""

from splitseed.chains import Chain, step_of
from splitseed.digits import packed, unpacked
from splitseed.errors import NoMachine, NoPath, NoPlace, NoSeed, NoState, NoStep
from splitseed.steps import GREATEST_WIDTH, LEAST_WIDTH
from splitseed.words import is_within


def check_size(thing, low, high):
    """Refuses any thing that is no size of a machine from low to high."""
    if not is_within(thing, low, high):
        raise NoMachine(thing)


def path_by_digits(digits):
    """The path whose digits these are, or None where a 0 stands ahead of another number."""
    path = []
    for digit in digits:
        if digit == 0:
            break
        path.append(digit - 1)
    if any(digits[len(path):]):
        return None
    return tuple(path)


class Machine:
    """Four sizes and a row of steps; never changes."""

    def __init__(self, seed_bits, part_bits, depth, place_bits, steps=None):
        check_size(seed_bits, 0, 32)
        check_size(part_bits, 1, 5)
        check_size(depth, 0, 6)
        check_size(place_bits, 1, 16)
        width = seed_bits + part_bits * depth + place_bits
        check_size(width, LEAST_WIDTH, GREATEST_WIDTH)
        self.chain = Chain([] if steps is None else steps)
        self.seed_bits = seed_bits
        self.part_bits = part_bits
        self.depth = depth
        self.place_bits = place_bits
        self.width = width

    def steps(self):
        """The steps in their order."""
        return list(self.chain.links)

    def seeds(self):
        """How many seeds there are."""
        return 1 << self.seed_bits

    def parts(self):
        """Into how many parts a hand may be split in all."""
        return (1 << self.part_bits) - 1

    def length(self):
        """How many places there are."""
        return 1 << self.place_bits

    def is_seed(self, thing):
        """Whether any thing is a seed of this machine."""
        return is_within(thing, 0, self.seeds() - 1)

    def check_seed(self, thing):
        """Refuses any thing that is no seed of this machine."""
        if not self.is_seed(thing):
            raise NoSeed(thing)

    def is_path(self, thing):
        """Whether any thing is a path of this machine."""
        if not isinstance(thing, tuple) or len(thing) > self.depth:
            return False
        last = self.parts() - 1
        return all(is_within(number, 0, last) for number in thing)

    def is_place(self, thing):
        """Whether any thing is a place of this machine."""
        return is_within(thing, 0, self.length() - 1)

    def digit_widths(self):
        """How many figures the seed, each digit of the path, and the place have in a spot."""
        return [self.seed_bits] + [self.part_bits] * self.depth + [self.place_bits]

    def spot(self, seed, path, place):
        """The number whose figures are those of seed, path and place."""
        self.check_seed(seed)
        if not self.is_path(path):
            raise NoPath(path)
        if not self.is_place(place):
            raise NoPlace(place)
        digits = [number + 1 for number in path] + [0] * (self.depth - len(path))
        return packed([seed] + digits + [place], self.digit_widths())

    def check_state(self, number):
        """Refuses any thing that is no number of the machine's width."""
        if not is_within(number, 0, (1 << self.width) - 1):
            raise NoState(number)

    def read_spot(self, number):
        """The seed, the digits and the place whose figures this number has."""
        self.check_state(number)
        numbers = unpacked(number, self.digit_widths())
        return (numbers[0], tuple(numbers[1:-1]), numbers[-1])

    def onward(self, number):
        """What the steps lead a number to."""
        self.check_state(number)
        return self.chain.onward(number, self.width)

    def backward(self, number):
        """What the steps lead to this number."""
        self.check_state(number)
        return self.chain.backward(number, self.width)

    def state(self, seed, path, place):
        """What the spot of seed, path and place is led onward to."""
        return self.onward(self.spot(seed, path, place))

    def read_state(self, number):
        """The seed, path and place of which this is the state, or None."""
        seed, digits, place = self.read_spot(self.backward(number))
        path = path_by_digits(digits)
        if path is None:
            return None
        return (seed, path, place)

    def next_state(self, number):
        """The state of the same seed and path at the place behind, or None."""
        found = self.read_state(number)
        if found is None:
            return None
        seed, path, place = found
        if not self.is_place(place + 1):
            return None
        return self.state(seed, path, place + 1)

    def told(self):
        """The four sizes, and how the steps are told."""
        steps = tuple(step.told() for step in self.chain.links)
        return (self.seed_bits, self.part_bits, self.depth, self.place_bits, steps)


def machine_of(told):
    """The machine that tells this tuple, of any thing."""
    if not isinstance(told, tuple) or len(told) != 5 or not isinstance(told[4], tuple):
        raise NoMachine(told)
    seed_bits, part_bits, depth, place_bits, told_steps = told
    try:
        steps = [step_of(told_step) for told_step in told_steps]
        return Machine(seed_bits, part_bits, depth, place_bits, steps)
    except (NoMachine, NoStep):
        raise NoMachine(told) from None


def same_machine(one, other):
    """Whether two machines are told alike."""
    return one.told() == other.told()
