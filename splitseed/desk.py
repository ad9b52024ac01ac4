"""A desk, which answers lines of text."""

from splitseed.desklines import read_line
from splitseed.deskwords import outcome_text
from splitseed.errors import NoLine, NoMachine, NoPlan, NoText, Twice, Unknown
from splitseed.hands import first_hand, joined
from splitseed.handtext import read_hand, show_hand
from splitseed.ledgers import drawn_by
from splitseed.machines import Machine
from splitseed.machinetext import show_machine
from splitseed.orders import MOST_THINGS
from splitseed.plantext import read_plan
from splitseed.rounds import tally
from splitseed.shaped import shuffled, taken
from splitseed.steps import check_within
from splitseed.tables import Table
from splitseed.trees import show_tree

WITHOUT_MACHINE = ("machine", "row", "rows", "clear")
WITH_TABLE = ("serve", "rest", "hold", "call", "came", "papers", "tree", "drew")


def in_one_text(things):
    """One text of numbers and names, with a blank between any two."""
    return " ".join([str(thing) for thing in things])


def set_machine(desk, machine):
    """Gives a desk a machine; hands and a table of another one go."""
    desk.machine = machine
    desk.hands = {}
    desk.table = None


def hand_at(desk, name):
    """The hand that has a name; refused where none has it."""
    if name not in desk.hands:
        raise Unknown(name)
    return desk.hands[name]


def check_free(desk, name):
    """Refuses a name that a hand has."""
    if name in desk.hands:
        raise Twice(name)


def say_machine(desk, seed_bits, part_bits, depth, place_bits):
    """A machine without steps."""
    set_machine(desk, Machine(seed_bits, part_bits, depth, place_bits))
    return []


def say_step(desk, step):
    """One step more, behind the others."""
    old = desk.machine
    set_machine(desk, Machine(old.seed_bits, old.part_bits, old.depth, old.place_bits, old.steps() + [step]))
    return []


def say_show(desk, shown):
    """The text of the machine or of a hand."""
    if shown == "machine":
        return show_machine(desk.machine).split("\n")
    return [show_hand(hand_at(desk, shown))]


def say_seed(desk, seed, name):
    """The first hand of a seed."""
    check_free(desk, name)
    desk.hands[name] = first_hand(desk.machine, seed)
    return []


def say_read(desk, name, text):
    """A hand that is told by its text."""
    check_free(desk, name)
    desk.hands[name] = read_hand(desk.machine, text)
    return []


def say_draw(desk, name, many):
    """So many draws of a hand."""
    numbers, behind = hand_at(desk, name).draws(many)
    desk.hands[name] = behind
    return [str(number) for number in numbers]


def say_jump(desk, name, many):
    """So many draws of a hand left out."""
    desk.hands[name] = hand_at(desk, name).jumped(many)
    return []


def say_take(desk, name, shape):
    """An outcome taken by a hand, and how many numbers were drawn for it."""
    outcome, behind, paper = taken(hand_at(desk, name), shape)
    desk.hands[name] = behind
    return [outcome_text(outcome), str(len(paper[3]))]


def say_shuffle(desk, name, many):
    """So many numbers from 0 on, shuffled by a hand."""
    hand = hand_at(desk, name)
    check_within(many, 0, MOST_THINGS)
    things, behind, papers = shuffled(hand, list(range(many)))
    desk.hands[name] = behind
    return [str(thing) for thing in things]


def say_part(desk, name, names):
    """A hand split into parts."""
    hand = hand_at(desk, name)
    for at, new in enumerate(names):
        check_free(desk, new)
        if new in names[:at]:
            raise Twice(new)
    parts, behind = hand.parted(len(names))
    desk.hands[name] = behind
    for new, part in zip(names, parts):
        desk.hands[new] = part
    return []


def say_join(desk, new, names):
    """Parts joined."""
    hands = [hand_at(desk, name) for name in names]
    if new not in names:
        check_free(desk, new)
    hand = joined(hands)
    for name in names:
        del desk.hands[name]
    desk.hands[new] = hand
    return []


def say_drop(desk, name):
    """A hand let go."""
    hand_at(desk, name)
    del desk.hands[name]
    return []


def say_hands(desk):
    """The names of all hands."""
    return sorted(desk.hands)


def say_where(desk, number):
    """Seed, place and path of a state."""
    origin = desk.machine.read_state(number)
    if origin is None:
        return []
    seed, path, place = origin
    return [in_one_text((seed, place) + path)]


def say_who(desk, number):
    """The hands of the seed and path of a state."""
    origin = desk.machine.read_state(number)
    if origin is None:
        return []
    return sorted([name for name, hand in desk.hands.items() if (hand.seed, hand.path) == origin[:2]])


def say_count(desk, shape):
    """How often each outcome of a shape comes, and how many states are thrown away."""
    outcomes, thrown = tally(desk.machine, shape)
    return [f"{outcome_text(outcome)} {times}" for outcome, times in outcomes] + [f"thrown {thrown}"]


def say_row(desk, text):
    """One row more for a plan."""
    desk.kept.append(text)
    return []


def say_rows(desk):
    """The rows for a plan."""
    return list(desk.kept)


def say_clear(desk):
    """All rows let go."""
    desk.kept = []
    return []


def say_deal(desk, seed):
    """A table of the plan that the rows tell."""
    plan = read_plan("\n".join(desk.kept))
    desk.table = Table(desk.machine, seed, plan)
    return plan.names()


def say_serve(desk, names):
    """Hands of the table served in their turn."""
    return [str(desk.table.deal(names))]


def say_rest(desk):
    """All hands of the table served out."""
    return [str(desk.table.serve_out())]


def say_hold(desk, name, holder):
    """A hand of the table handed on."""
    desk.table.hand_on(name, holder)
    return []


def say_call(desk, holder):
    """A holder at the table served."""
    name = desk.table.serve_holder(holder)
    return [] if name is None else [name]


def came_text(row, thing):
    """The text of what came of a row."""
    if row[0] == "take" or row[0] == "jump":
        return outcome_text(thing)
    return in_one_text(thing)


def say_came(desk, name):
    """What came of the rows of a hand of the table."""
    came = desk.table.came(name)
    return [came_text(row, thing) for row, thing in zip(desk.table.plan.rows_of(name), came)]


def say_papers(desk, name):
    """Where the rows of a hand of the table begin, and how many places they use."""
    return [in_one_text((place, used)) for path, place, used in desk.table.papers(name)]


def say_tree(desk):
    """The tree of the table's plan."""
    return show_tree(desk.table.plan).split("\n")


def say_drew(desk, number):
    """By whom, and where, a number is drawn in the table's plan."""
    table = desk.table
    found = drawn_by(table.machine, table.seed, table.plan, number)
    return [] if found is None else [in_one_text(found)]


# What each line does, by its word.
DEEDS = {
    "machine": say_machine,
    "step": say_step,
    "show": say_show,
    "seed": say_seed,
    "read": say_read,
    "draw": say_draw,
    "jump": say_jump,
    "take": say_take,
    "shuffle": say_shuffle,
    "part": say_part,
    "join": say_join,
    "drop": say_drop,
    "hands": say_hands,
    "where": say_where,
    "who": say_who,
    "count": say_count,
    "row": say_row,
    "rows": say_rows,
    "clear": say_clear,
    "deal": say_deal,
    "serve": say_serve,
    "rest": say_rest,
    "hold": say_hold,
    "call": say_call,
    "came": say_came,
    "papers": say_papers,
    "tree": say_tree,
    "drew": say_drew,
}


class Desk:
    """A machine, hands by names, rows for a plan, and a table; changes by the lines that it is told."""

    def __init__(self):
        self.machine = None
        self.hands = {}
        self.kept = []
        self.table = None

    def say(self, line):
        """The texts by which a line is answered, of any thing."""
        word, values = read_line(line)
        if word not in WITHOUT_MACHINE and self.machine is None:
            raise NoMachine(None)
        if word in WITH_TABLE and self.table is None:
            raise NoPlan(0)
        deed = DEEDS[word]
        try:
            return deed(self, *values)
        except NoText:
            # Only the words of a hand are read as late as this.
            raise NoLine(line) from None
