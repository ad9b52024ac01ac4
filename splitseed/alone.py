"""What comes of a single hand of a plan, without any other hand."""

from splitseed.doing import row_done
from splitseed.errors import Beyond, NoDepth, NoParts, Spent, TooDeep, TooMany
from splitseed.hands import hand_of
from splitseed.plans import way_down


def row_of_coming(plan, name):
    """The number, among the rows of its upper, of the row by which a hand comes."""
    rows = plan.rows_of(plan.upper_of(name))
    return [at for at, row in enumerate(rows) if row[0] == "part" and name in row[1]][0]


def check_way(machine, plan, name):
    """Refuses a hand that cannot come on this machine, by the first hand on its way that the next cannot come of."""
    for lower in way_down(plan, name)[1:]:
        path = plan.path_of(lower)
        if len(path) > machine.depth:
            raise NoDepth(plan.upper_of(lower), row_of_coming(plan, lower))
        if path[-1] >= machine.parts():
            raise NoParts(plan.upper_of(lower), row_of_coming(plan, lower))


def lone_hand(machine, seed, path):
    """The hand of this path at place 0, as if none had been split off beside it."""
    stubs = tuple([(0, number, 1) for number in path])
    return hand_of(machine, (seed, path, 0, 0, stubs))


def done_or_refused(hand, row, name, at):
    """What comes of the row of this number, and the hand behind; refused by the name that the hand has in its plan."""
    try:
        return row_done(hand, row)
    except TooDeep:
        raise NoDepth(name, at) from None
    except TooMany:
        raise NoParts(name, at) from None
    except Spent:
        raise Beyond(name, hand.place) from None


def alone(machine, seed, plan, name):
    """What comes of each row of a hand of a plan, and the papers of the rows; of any things as seed and name."""
    machine.check_seed(seed)
    path = plan.path_of(name)
    check_way(machine, plan, name)
    hand = lone_hand(machine, seed, path)
    came = []
    papers = []
    for at, row in enumerate(plan.rows_of(name)):
        thing, behind = done_or_refused(hand, row, name, at)
        came.append(thing)
        papers.append((path, hand.place, behind.place - hand.place))
        hand = behind
    return (came, papers)
