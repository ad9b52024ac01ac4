"""Tables, at which the hands of a plan are dealt to in any order."""

from splitseed.alone import alone
from splitseed.errors import NoHand, NoHolder, NoRow
from splitseed.hands import first_hand
from splitseed.words import is_name

HOUSE = "house"


def check_holder(thing):
    """Refuses any thing that is no holder."""
    if not is_name(thing) and thing != HOUSE:
        raise NoHolder(thing)


class Table:
    """The hands of a plan, served row by row; changes by its own deeds."""

    def __init__(self, machine, seed, plan):
        root = first_hand(machine, seed)
        self.machine = machine
        self.seed = seed
        self.plan = plan
        # What comes of a hand hangs on no other one, so all of it is known, and refused, ahead.
        self.due = {name: alone(machine, seed, plan, name) for name in plan.names()}
        self.done = {plan.root(): 0}
        self.hands = {plan.root(): root}
        self.holders = {plan.root(): HOUSE}

    def check_there(self, name):
        """Refuses any thing that is the name of no hand of the plan, then one whose hand isn't there."""
        if not self.is_there(name):
            raise NoHand(name)

    def is_there(self, name):
        """Whether a hand has come and isn't joined."""
        self.plan.check_known(name)
        return name in self.hands

    def is_over(self, name):
        """Whether a hand has come and all its rows are done."""
        rows = self.plan.rows_of(name)
        return name in self.done and self.done[name] == len(rows)

    def all_over(self):
        """Whether all hands of the plan are over."""
        return all(self.is_over(name) for name in self.plan.names())

    def waits(self, name):
        """Whether the next row of a hand is a join of hands that are not all over yet."""
        word, inner = self.plan.rows_of(name)[self.done[name]]
        return word == "join" and not all(self.is_over(part) for part in inner)

    def part_hand(self, name, names):
        """Splits a hand into parts of these names, which have its holder."""
        parts, behind = self.hands[name].parted(len(names))
        for part, hand in zip(names, parts):
            self.hands[part] = hand
            self.holders[part] = self.holders[name]
            self.done[part] = 0
        self.hands[name] = behind

    def join_hands(self, names):
        """Lets the hands of these names go."""
        for name in names:
            del self.hands[name]
            del self.holders[name]

    def move_on(self, name):
        """Moves a hand on by as many places as its next row uses."""
        path, place, used = self.due[name][1][self.done[name]]
        self.hands[name] = self.hands[name].jumped(used)

    def serve(self, name):
        """Does the next row of a hand; tells whether there was one to be done."""
        if not self.is_there(name) or self.is_over(name) or self.waits(name):
            return False
        word, inner = self.plan.rows_of(name)[self.done[name]]
        if word == "part":
            self.part_hand(name, inner)
        elif word == "join":
            self.join_hands(inner)
        else:
            self.move_on(name)
        self.done[name] += 1
        return True

    def came(self, name):
        """What came of the rows of a hand so far."""
        self.plan.check_known(name)
        return self.due[name][0][:self.done.get(name, 0)]

    def papers(self, name):
        """The papers of the rows of a hand so far."""
        self.plan.check_known(name)
        return self.due[name][1][:self.done.get(name, 0)]

    def hand_now(self, name):
        """A hand as it stands now."""
        self.check_there(name)
        return self.hands[name]

    def hand_on(self, name, holder):
        """Hands a hand on to a holder."""
        self.check_there(name)
        check_holder(holder)
        self.holders[name] = holder

    def holder_of(self, name):
        """The holder of a hand."""
        self.check_there(name)
        return self.holders[name]

    def serve_holder(self, holder):
        """Serves the first hand of a holder that can be served, and tells its name; None where there is none."""
        check_holder(holder)
        for name in self.plan.names():
            if self.holders.get(name) == holder and self.serve(name):
                return name
        return None

    def deal(self, names=None):
        """Serves hands in their turn, those that the plan tells where none are told; tells how many rows that did."""
        if names is not None and not isinstance(names, (list, tuple)):
            raise NoRow(names)
        served = self.plan.served() if names is None else names
        for name in served:
            self.plan.check_known(name)
        rows = 0
        for name in served:
            if self.serve(name):
                rows += 1
        return rows

    def serve_out(self):
        """Serves all hands round by round until all are over; tells how many rows that did."""
        rows = 0
        while not self.all_over():
            rows += self.deal(self.plan.names())
        return rows
