"""The simple steps, each of which leads numbers of any width onward and backward."""

from splitseed.errors import NoNumber, NoWidth
from splitseed.words import is_within

LEAST_WIDTH = 4
GREATEST_WIDTH = 64
GREATEST_NUMBER = 2 ** 64 - 1
FARTHEST = 63
SIMPLE_WORDS = ("plus", "times", "cross", "fold", "rise", "turn", "lean")


def check_width(width):
    """Refuses any thing that is no width."""
    if not is_within(width, LEAST_WIDTH, GREATEST_WIDTH):
        raise NoWidth(width)


def check_number(number, width):
    """Refuses what is no width, then what is no number of that width."""
    check_width(width)
    if not is_within(number, 0, (1 << width) - 1):
        raise NoNumber(number)


def check_within(thing, low, high):
    """Refuses any thing that is no whole number from low to high."""
    if not is_within(thing, low, high):
        raise NoNumber(thing)


def check_odd(n):
    """Refuses any thing that is no odd number by which numbers can be taken."""
    check_within(n, 1, GREATEST_NUMBER)
    if n % 2 == 0:
        raise NoNumber(n)


def cut(number, width):
    """The lowest figures of a number, as many as the width."""
    return number % (1 << width)


def turned(number, by, width):
    """The number with its highest figures, by many and fewer than the width, put behind all others."""
    return cut(number << by, width) + (number >> (width - by))


def opposites(n, width):
    """The rest of n and what comes of it, one behind the other, up to the opposite of n."""
    check_odd(n)
    check_width(width)
    found = [cut(n, width)]
    while cut(n * found[-1], width) != 1:
        found.append(cut(found[-1] * (2 - n * found[-1]), width))
    return found


def opposite_of(n, width):
    """The number of this width that taken n times has the rest 1."""
    return opposites(n, width)[-1]


class Step:
    """What leads each number of a width to another one and back; not made by itself."""

    def onward(self, number, width):
        """The number of this width that a number of it is led to."""
        raise NotImplementedError("Each kind of step leads onward in its own way.")

    def backward(self, number, width):
        """The number of this width that is led onward to this one."""
        raise NotImplementedError("Each kind of step leads backward in its own way.")

    def told(self):
        """The step's word and what it is made of, as a tuple."""
        raise NotImplementedError("Each kind of step is told in its own way.")

    def words(self):
        """The words by which the step is written, as a text."""
        raise NotImplementedError("Each kind of step is written in its own way.")

    def levels(self):
        """How many steps stand within one another, this one counted too."""
        raise NotImplementedError("Each kind of step has its own levels.")


class Plus(Step):
    """Adds n."""

    def __init__(self, n):
        check_within(n, 0, GREATEST_NUMBER)
        self.n = n

    def onward(self, number, width):
        check_number(number, width)
        return cut(number + self.n, width)

    def backward(self, number, width):
        check_number(number, width)
        return cut(number - self.n, width)

    def told(self):
        return ("plus", self.n)

    def words(self):
        return f"plus {self.n}"

    def levels(self):
        return 1


class Times(Step):
    """Takes a number n times, n odd."""

    def __init__(self, n):
        check_odd(n)
        self.n = n

    def onward(self, number, width):
        check_number(number, width)
        return cut(number * self.n, width)

    def backward(self, number, width):
        check_number(number, width)
        return cut(number * opposite_of(self.n, width), width)

    def told(self):
        return ("times", self.n)

    def words(self):
        return f"times {self.n}"

    def levels(self):
        return 1


class Cross(Step):
    """Changes each figure where n has a 1."""

    def __init__(self, n):
        check_within(n, 0, GREATEST_NUMBER)
        self.n = n

    def onward(self, number, width):
        check_number(number, width)
        return number ^ cut(self.n, width)

    def backward(self, number, width):
        return self.onward(number, width)

    def told(self):
        return ("cross", self.n)

    def words(self):
        return f"cross {self.n}"

    def levels(self):
        return 1


class Fold(Step):
    """Changes each figure where the figure k places higher is a 1."""

    def __init__(self, k):
        check_within(k, 1, FARTHEST)
        self.k = k

    def onward(self, number, width):
        check_number(number, width)
        return number ^ (number >> self.k)

    def backward(self, number, width):
        check_number(number, width)
        # Folded twice by as many places is folded once by twice as many: so each turn of
        # the loop doubles the fold that is still to be undone, until it leads past the end.
        unfolded = number
        by = self.k
        while by < width:
            unfolded = unfolded ^ (unfolded >> by)
            by += by
        return unfolded

    def told(self):
        return ("fold", self.k)

    def words(self):
        return f"fold {self.k}"

    def levels(self):
        return 1


class Rise(Step):
    """Changes each figure where the figure k places lower is a 1."""

    def __init__(self, k):
        check_within(k, 1, FARTHEST)
        self.k = k

    def onward(self, number, width):
        check_number(number, width)
        return number ^ cut(number << self.k, width)

    def backward(self, number, width):
        check_number(number, width)
        # As by Fold: what is still to be undone doubles with each turn of the loop.
        lowered = number
        by = self.k
        while by < width:
            lowered = lowered ^ cut(lowered << by, width)
            by += by
        return lowered

    def told(self):
        return ("rise", self.k)

    def words(self):
        return f"rise {self.k}"

    def levels(self):
        return 1


class Turn(Step):
    """Puts the k highest figures, k by its rest by the width, behind all others."""

    def __init__(self, k):
        check_within(k, 1, FARTHEST)
        self.k = k

    def onward(self, number, width):
        check_number(number, width)
        return turned(number, self.k % width, width)

    def backward(self, number, width):
        check_number(number, width)
        return turned(number, (0 - self.k) % width, width)

    def told(self):
        return ("turn", self.k)

    def words(self):
        return f"turn {self.k}"

    def levels(self):
        return 1


class Lean(Step):
    """Changes the high half of a number by its low half taken n times."""

    def __init__(self, n):
        check_within(n, 0, GREATEST_NUMBER)
        self.n = n

    def onward(self, number, width):
        check_number(number, width)
        half = width // 2
        change = cut(cut(number, half) * self.n, width - half)
        return number ^ (change << half)

    def backward(self, number, width):
        # The low half stays, so the same figures are changed again.
        return self.onward(number, width)

    def told(self):
        return ("lean", self.n)

    def words(self):
        return f"lean {self.n}"

    def levels(self):
        return 1


def simple_step(word, number):
    """The simple step of this word, made of any thing as number; None where no simple step has this word."""
    if word == "plus":
        return Plus(number)
    if word == "times":
        return Times(number)
    if word == "cross":
        return Cross(number)
    if word == "fold":
        return Fold(number)
    if word == "rise":
        return Rise(number)
    if word == "turn":
        return Turn(number)
    if word == "lean":
        return Lean(number)
    return None
