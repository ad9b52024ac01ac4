"""Outcomes of shapes taken by hands, and rows shuffled and picked from by them."""

from splitseed.errors import NoHand, NoRow, NoShape, Spent
from splitseed.hands import Hand
from splitseed.orders import MOST_THINGS, by_numbers, laid
from splitseed.shapes import Below, Sets, Shape, check_total


def check_hand(thing):
    """Refuses any thing that is no hand."""
    if not isinstance(thing, Hand):
        raise NoHand(thing)


def check_shape(thing):
    """Refuses any thing that is no shape."""
    if not isinstance(thing, Shape):
        raise NoShape(thing)


def check_row(thing):
    """Refuses any thing that is no list of so few things that orders of them may be laid."""
    if not isinstance(thing, list) or len(thing) > MOST_THINGS:
        raise NoRow(thing)


def taken(hand, shape):
    """The outcome of the first draw that the shape doesn't throw, the hand behind, and the paper of the draws."""
    check_hand(hand)
    check_shape(shape)
    width = hand.machine.width
    check_total(shape.numbers(), 1 << width)
    numbers = []
    for k in range(hand.left_over()):
        numbers.append(hand.state_behind(k))
        outcome = shape.of(numbers[k], width)
        if outcome is not None:
            return (outcome, hand.jumped(k + 1), (hand.seed, hand.path, hand.place, tuple(numbers)))
    raise Spent(hand.path, hand.place)


def taker(shape):
    """A function of a hand, which takes an outcome of this shape."""
    check_shape(shape)

    def takes(hand):
        return taken(hand, shape)

    return takes


def exchanges_taken(hand, many):
    """The numbers by which so many things are exchanged, the hand behind their takings, and the papers."""
    numbers = []
    papers = []
    behind = hand
    for bound in range(many, 1, -1):
        number, behind, paper = taken(behind, Below(bound))
        numbers.append(number)
        papers.append(paper)
    return (numbers, behind, papers)


def shuffled(hand, row):
    """The things of a row as they lie when a hand has shuffled it, the hand behind, and the papers."""
    check_hand(hand)
    check_row(row)
    if len(row) < 2:
        return (list(row), hand, [])
    try:
        numbers, behind, papers = exchanges_taken(hand, len(row))
    except Spent:
        # It is the hand that was handed in that hasn't enough draws, wherever they came to their end.
        raise Spent(hand.path, hand.place) from None
    return (laid(row, by_numbers(numbers)), behind, papers)


def picked(hand, row, many):
    """So many things of a row as a hand picks them, the hand behind, and the paper."""
    check_hand(hand)
    check_row(row)
    places, behind, paper = taken(hand, Sets(len(row), many))
    return ([row[at] for at in places], behind, paper)
