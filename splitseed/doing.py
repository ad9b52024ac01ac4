"""What hands do by the rows of a plan."""

from splitseed.shaped import shuffled, taken
from splitseed.shapes import shape_of


def row_done(hand, row):
    """What comes of a row that a hand does, and the hand behind it; refused as the hand's own deed is."""
    word, inner = row
    if word == "draw":
        numbers, behind = hand.draws(inner)
        return (tuple(numbers), behind)
    if word == "take":
        outcome, behind, paper = taken(hand, shape_of(inner))
        return (outcome, behind)
    if word == "shuffle":
        things, behind, papers = shuffled(hand, list(range(inner)))
        return (tuple(things), behind)
    if word == "jump":
        behind = hand.jumped(inner)
        return (behind.place, behind)
    if word == "part":
        parts, behind = hand.parted(len(inner))
        return (inner, behind)
    return (inner, hand)
