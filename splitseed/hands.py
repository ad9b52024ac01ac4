"""Hands, which draw numbers, jump, are split and joined; a deed tells another hand and changes none."""

from splitseed.errors import NoHand, NoJoin, Spent, TooDeep, TooMany
from splitseed.machines import same_machine
from splitseed.steps import check_within
from splitseed.words import is_within

MOST_DRAWS = 65536
MOST_PARTS = 31


class Hand:
    """A seed, a path and a place of a machine, and how the hand came by them; never changes."""

    def __init__(self, machine, seed, path, place, given, stubs):
        self.machine = machine
        self.seed = seed
        self.path = path
        self.place = place
        self.given = given
        self.stubs = stubs

    def left_over(self):
        """How many draws are left."""
        return self.machine.length() - self.place

    def check_left(self, many):
        """Refuses where fewer draws are left than so many."""
        if self.left_over() < many:
            raise Spent(self.path, self.place)

    def state_behind(self, many):
        """The draw behind so many other ones."""
        return self.machine.state(self.seed, self.path, self.place + many)

    def draw(self):
        """The next draw, and the hand behind."""
        behind = self.jumped(1)
        return (self.state_behind(0), behind)

    def draws(self, many):
        """The list of so many draws, and the hand behind."""
        behind = self.jumped(many)
        return ([self.state_behind(k) for k in range(many)], behind)

    def jumped(self, many):
        """The hand behind so many draws."""
        check_within(many, 0, MOST_DRAWS)
        self.check_left(many)
        return Hand(self.machine, self.seed, self.path, self.place + many, self.given, self.stubs)

    def drawer(self):
        """A function of a number, which tells the draw behind so many other ones."""

        def drawn(k):
            check_within(k, 0, MOST_DRAWS)
            self.check_left(k + 1)
            return self.state_behind(k)

        return drawn

    def parted(self, many=2):
        """The list of so many parts, and the hand behind."""
        check_within(many, 1, MOST_PARTS)
        if len(self.path) == self.machine.depth:
            raise TooDeep(self.path)
        if self.given + many > self.machine.parts():
            raise TooMany(self.path, many)
        stubs = self.stubs + ((self.place, self.given, many),)
        given = self.given + many
        parts = [Hand(self.machine, self.seed, self.path + (k,), 0, 0, stubs) for k in range(self.given, given)]
        return (parts, Hand(self.machine, self.seed, self.path, self.place, given, self.stubs))

    def told(self):
        """All that the hand is, beside its machine."""
        return (self.seed, self.path, self.place, self.given, self.stubs)


def first_hand(machine, seed):
    """The hand of a machine and a seed of which all others come."""
    machine.check_seed(seed)
    return Hand(machine, seed, (), 0, 0, ())


def is_stub(machine, number, stub):
    """Whether a part with this number, the last of its path, may have come by this stub."""
    if not isinstance(stub, tuple) or len(stub) != 3:
        return False
    place, first, many = stub
    if not is_within(place, 0, machine.length()) or not is_within(many, 1, MOST_PARTS):
        return False
    return is_within(first, 0, machine.parts() - many) and first <= number < first + many


def are_stubs(machine, path, stubs):
    """Whether a hand of this path may have these stubs."""
    if not isinstance(stubs, tuple) or len(stubs) != len(path):
        return False
    return all(is_stub(machine, number, stub) for number, stub in zip(path, stubs))


def most_given(machine, path):
    """How many parts a hand of this path may have given at most."""
    return 0 if len(path) == machine.depth else machine.parts()


def is_told(machine, thing):
    """Whether any thing is what a hand of this machine could tell."""
    if not isinstance(thing, tuple) or len(thing) != 5:
        return False
    seed, path, place, given, stubs = thing
    if not machine.is_seed(seed) or not machine.is_path(path) or not is_within(place, 0, machine.length()):
        return False
    return is_within(given, 0, most_given(machine, path)) and are_stubs(machine, path, stubs)


def hand_of(machine, told):
    """The hand of this machine that tells this tuple, of any thing."""
    if not is_told(machine, told):
        raise NoHand(told)
    seed, path, place, given, stubs = told
    return Hand(machine, seed, path, place, given, stubs)


def same_hand(one, other):
    """Whether two hands have the same machine and tell the same."""
    return same_machine(one.machine, other.machine) and one.told() == other.told()


def is_part_beside(thing, first):
    """Whether any thing is a part of the splitting by which the first thing came, if that is a part."""
    if not isinstance(thing, Hand) or thing.path == ():
        return False
    if thing.seed != first.seed or thing.path[:-1] != first.path[:-1] or thing.stubs != first.stubs:
        return False
    return same_machine(thing.machine, first.machine)


def joined(parts):
    """The hand as it stood right behind the splitting by which all the parts came."""
    if not isinstance(parts, list) or len(parts) == 0:
        raise NoJoin(0)
    first = parts[0]
    paths = []
    for at, part in enumerate(parts):
        if not is_part_beside(part, first) or part.path in paths:
            raise NoJoin(at)
        paths.append(part.path)
    place, start, many = first.stubs[-1]
    if len(parts) < many:
        raise NoJoin(len(parts))
    return Hand(first.machine, first.seed, first.path[:-1], place, start + many, first.stubs[:-1])
