"""Shapes, which turn numbers into outcomes, each outcome for as many numbers as it should have."""

from splitseed.digits import check_below, mixed, product, unmixed
from splitseed.errors import NoNumber, NoShape, TooWide
from splitseed.orders import is_order, order_at, order_rank, orders_many
from splitseed.sets import MOST_CHOICE, is_set, set_at, set_rank, sets_many
from splitseed.shapeforms import GREATEST_HEIGHT, MOST_TIMES, is_bound, is_form
from splitseed.shares import first_of, share_at, shares_many
from splitseed.steps import check_number, check_within
from splitseed.words import is_within

MOST_NUMBERS = 2 ** 64
MOST_OUTCOMES = 1000


def check_total(total, most):
    """Refuses a total above the most that may be."""
    if total > most:
        raise TooWide(total)


def outcomes_by(shape):
    """Each outcome of a shape with how many numbers it has, in the order of their least numbers."""
    check_total(shape.numbers(), MOST_OUTCOMES)
    outcomes = []
    for number in range(shape.numbers()):
        outcome = shape.outcome(number)
        if shape.first_for(outcome) == number:
            outcomes.append((outcome, shape.how_many_for(outcome)))
    return outcomes


def outcome_by(shape, value, width):
    """The outcome that a shape takes a value of a width to; None of one that is thrown away."""
    check_number(value, width)
    check_total(shape.numbers(), 1 << width)
    number = value // ((1 << width) // shape.numbers())
    return shape.outcome(number) if number < shape.numbers() else None


class Shape:
    """What turns numbers into outcomes; never changes, and is not made by itself."""

    def numbers(self):
        """How many numbers there are."""
        raise NotImplementedError("Each kind of shape has its own numbers.")

    def height(self):
        """How far shapes stand within one another."""
        raise NotImplementedError("Each kind of shape has its own height.")

    def outcome(self, number):
        """The outcome that belongs to a number."""
        raise NotImplementedError("Each kind of shape has its own outcomes.")

    def how_many_for(self, thing):
        """Of how many numbers any thing is the outcome."""
        raise NotImplementedError("Each kind of shape has its own outcomes.")

    def first_for(self, thing):
        """The least number of which any thing is the outcome, or None."""
        raise NotImplementedError("Each kind of shape has its own outcomes.")

    def all_outcomes(self):
        """Each outcome with how many numbers it has, in the order of their least numbers."""
        raise NotImplementedError("Each kind of shape has its own outcomes.")

    def of(self, value, width):
        """The outcome that a value of a width is taken to, or None."""
        raise NotImplementedError("Each kind of shape has its own outcomes.")

    def told(self):
        """The shape's word and what it is made of, as nested tuples."""
        raise NotImplementedError("Each kind of shape is told in its own way.")

    def words(self):
        """The words by which the shape is written, as a text."""
        raise NotImplementedError("Each kind of shape is written in its own way.")


def check_inner_shape(thing):
    """Refuses any thing of which no shape that is one higher can be made."""
    if not isinstance(thing, Shape) or thing.height() >= GREATEST_HEIGHT:
        raise NoShape(thing)


class Below(Shape):
    """The numbers below a bound themselves."""

    def __init__(self, bound):
        if not is_bound(bound):
            raise NoNumber(bound)
        check_total(bound, MOST_NUMBERS)
        self.bound = bound

    def numbers(self):
        return self.bound

    def height(self):
        return 0

    def outcome(self, number):
        check_below(number, self.bound)
        return number

    def how_many_for(self, thing):
        return 1 if is_within(thing, 0, self.bound - 1) else 0

    def first_for(self, thing):
        return thing if self.how_many_for(thing) > 0 else None

    def all_outcomes(self):
        return outcomes_by(self)

    def of(self, value, width):
        return outcome_by(self, value, width)

    def told(self):
        return ("below", self.bound)

    def words(self):
        return f"below {self.bound}"


class Shares(Shape):
    """Choices by shares: into which share a number falls."""

    def __init__(self, shares):
        self.total = shares_many(shares)
        self.shares = tuple(shares)

    def numbers(self):
        return self.total

    def height(self):
        return 0

    def outcome(self, number):
        return share_at(self.shares, number)

    def how_many_for(self, thing):
        return self.shares[thing] if is_within(thing, 0, len(self.shares) - 1) else 0

    def first_for(self, thing):
        return first_of(self.shares, thing) if self.how_many_for(thing) > 0 else None

    def all_outcomes(self):
        return outcomes_by(self)

    def of(self, value, width):
        return outcome_by(self, value, width)

    def told(self):
        return ("shares", self.shares)

    def words(self):
        return " ".join(["shares"] + [str(share) for share in self.shares])


class Orders(Shape):
    """Orders of so many things, by their ranks."""

    def __init__(self, many):
        self.total = orders_many(many)
        self.many = many

    def numbers(self):
        return self.total

    def height(self):
        return 0

    def outcome(self, number):
        return order_at(self.many, number)

    def how_many_for(self, thing):
        return 1 if isinstance(thing, tuple) and len(thing) == self.many and is_order(thing) else 0

    def first_for(self, thing):
        return order_rank(thing) if self.how_many_for(thing) > 0 else None

    def all_outcomes(self):
        return outcomes_by(self)

    def of(self, value, width):
        return outcome_by(self, value, width)

    def told(self):
        return ("orders", self.many)

    def words(self):
        return f"orders {self.many}"


class Sets(Shape):
    """Sets of one size out of so many things, by their ranks."""

    def __init__(self, many, size):
        check_within(many, 0, MOST_CHOICE)
        check_within(size, 0, many)
        self.total = sets_many(many, size)
        self.many = many
        self.size = size

    def numbers(self):
        return self.total

    def height(self):
        return 0

    def outcome(self, number):
        return set_at(self.many, self.size, number)

    def how_many_for(self, thing):
        return 1 if isinstance(thing, tuple) and len(thing) == self.size and is_set(self.many, thing) else 0

    def first_for(self, thing):
        return set_rank(self.many, thing) if self.how_many_for(thing) > 0 else None

    def all_outcomes(self):
        return outcomes_by(self)

    def of(self, value, width):
        return outcome_by(self, value, width)

    def told(self):
        return ("sets", self.many, self.size)

    def words(self):
        return f"sets {self.many} {self.size}"


class Pair(Shape):
    """Two shapes beside one another; the second one's outcome changes faster."""

    def __init__(self, one, other):
        check_inner_shape(one)
        check_inner_shape(other)
        self.total = one.numbers() * other.numbers()
        check_total(self.total, MOST_NUMBERS)
        self.one = one
        self.other = other

    def numbers(self):
        return self.total

    def height(self):
        return 1 + max(self.one.height(), self.other.height())

    def outcome(self, number):
        first, second = unmixed(number, [self.one.numbers(), self.other.numbers()])
        return (self.one.outcome(first), self.other.outcome(second))

    def how_many_for(self, thing):
        if not isinstance(thing, tuple) or len(thing) != 2:
            return 0
        return self.one.how_many_for(thing[0]) * self.other.how_many_for(thing[1])

    def first_for(self, thing):
        if self.how_many_for(thing) == 0:
            return None
        return self.one.first_for(thing[0]) * self.other.numbers() + self.other.first_for(thing[1])

    def all_outcomes(self):
        return outcomes_by(self)

    def of(self, value, width):
        return outcome_by(self, value, width)

    def told(self):
        return ("pair", self.one.told(), self.other.told())

    def words(self):
        return f"pair ( {self.one.words()} ) ( {self.other.words()} )"


class Rows(Shape):
    """One shape so many times; the last outcome changes fastest."""

    def __init__(self, shape, many):
        check_inner_shape(shape)
        check_within(many, 0, MOST_TIMES)
        self.bases = (shape.numbers(),) * many
        self.total = product(self.bases)
        check_total(self.total, MOST_NUMBERS)
        self.shape = shape
        self.many = many

    def numbers(self):
        return self.total

    def height(self):
        return 1 + self.shape.height()

    def outcome(self, number):
        return tuple([self.shape.outcome(single) for single in unmixed(number, self.bases)])

    def how_many_for(self, thing):
        if not isinstance(thing, tuple) or len(thing) != self.many:
            return 0
        return product([self.shape.how_many_for(single) for single in thing])

    def first_for(self, thing):
        if self.how_many_for(thing) == 0:
            return None
        return mixed([self.shape.first_for(single) for single in thing], self.bases)

    def all_outcomes(self):
        return outcomes_by(self)

    def of(self, value, width):
        return outcome_by(self, value, width)

    def told(self):
        return ("rows", self.shape.told(), self.many)

    def words(self):
        return f"rows {self.many} ( {self.shape.words()} )"


def made(told):
    """The shape that tells this tuple, which is built as it should be."""
    if told[0] == "below":
        return Below(told[1])
    if told[0] == "shares":
        return Shares(told[1])
    if told[0] == "orders":
        return Orders(told[1])
    if told[0] == "sets":
        return Sets(told[1], told[2])
    if told[0] == "pair":
        return Pair(made(told[1]), made(told[2]))
    return Rows(made(told[1]), told[2])


def shape_of(told):
    """The shape that tells this tuple, of any thing."""
    # The form is looked at in full ahead of all making, as a shape that is too wide is refused behind it.
    if not is_form(told, GREATEST_HEIGHT):
        raise NoShape(told)
    return made(told)
