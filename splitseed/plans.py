"""Plans, which tell what many hands do."""

from splitseed.errors import NoName, NoPlan, NoRow, Twice, Unknown
from splitseed.hands import MOST_PARTS
from splitseed.shapes import shape_of
from splitseed.words import is_name, is_within

# The rows that are told by a number, each with the least and the greatest one.
COUNTED_ROWS = {"draw": (1, 100), "shuffle": (2, 30), "jump": (0, 65536)}
NAMING_ROWS = ("part", "join")


def is_row(thing):
    """Whether any thing has the form of a row."""
    if not isinstance(thing, tuple) or len(thing) != 2 or not isinstance(thing[0], str):
        return False
    word, inner = thing
    if word in COUNTED_ROWS:
        least, greatest = COUNTED_ROWS[word]
        return is_within(inner, least, greatest)
    if word in NAMING_ROWS:
        return isinstance(inner, tuple) and 1 <= len(inner) <= MOST_PARTS
    return word == "take"


def is_script(thing):
    """Whether any thing has the form of a script."""
    if not isinstance(thing, tuple) or len(thing) != 2:
        return False
    rows = thing[1]
    return isinstance(rows, (list, tuple)) and all(is_row(row) for row in rows)


def check_scripts(scripts):
    """Refuses any thing that has not the form of scripts."""
    if not isinstance(scripts, (list, tuple)) or len(scripts) == 0:
        raise NoPlan(0)
    for at, script in enumerate(scripts):
        if not is_script(script):
            raise NoPlan(at)


def check_new_name(thing, ahead):
    """Refuses any thing that is no name, or one that stands ahead."""
    if not is_name(thing):
        raise NoName(thing)
    if thing in ahead:
        raise Twice(thing)


def check_title(thing, told, uppers):
    """Refuses any thing that cannot be the name of a script behind those that are told."""
    check_new_name(thing, told)
    if len(told) > 0 and thing not in uppers:
        raise Unknown(thing)


def is_just(things, names):
    """Whether any things are just these names, of which none stands twice, in any order."""
    return len(things) == len(names) and all(name in things for name in names)


def check_join(row, ahead):
    """Refuses a join row that does not join the parts of one part row ahead, or joins them once more."""
    words = [word for word, inner in ahead if word in NAMING_ROWS and is_just(row[1], inner)]
    if words != ["part"]:
        raise NoRow(row)


def check_rows(upper, rows, uppers):
    """Refuses rows that cannot stand in the script of this hand, and notes whom they name as its parts."""
    for at, row in enumerate(rows):
        word, inner = row
        if word == "take":
            shape_of(inner)
        elif word == "part":
            for thing in inner:
                check_new_name(thing, uppers)
                uppers[thing] = upper
        elif word == "join":
            check_join(row, rows[:at])


def uppers_by(scripts):
    """The upper of each hand by its name, by coming; refuses scripts of which no plan is made."""
    check_scripts(scripts)
    uppers = {}
    told = []
    for name, rows in scripts:
        check_title(name, told, uppers)
        # Ahead of all others comes the root, which no part row may name.
        uppers.setdefault(name, None)
        told.append(name)
        check_rows(name, rows, uppers)
    return uppers


def paths_by(uppers):
    """The path of each hand by its name, of the uppers by coming."""
    paths = {}
    children = {name: 0 for name in uppers}
    for name, upper in uppers.items():
        if upper is None:
            paths[name] = ()
        else:
            paths[name] = paths[upper] + (children[upper],)
            children[upper] += 1
    return paths


class Plan:
    """Scripts of many hands, and the names that are served; never changes."""

    def __init__(self, scripts, asked, uppers):
        self.scripts = scripts
        self.asked = asked
        self.uppers = uppers
        self.paths = paths_by(uppers)

    def check_known(self, thing):
        """Refuses any thing that is the name of no hand of the plan."""
        if not is_name(thing) or thing not in self.uppers:
            raise Unknown(thing)

    def root(self):
        """The name of the root."""
        return self.scripts[0][0]

    def names(self):
        """The names of all hands, by coming."""
        return list(self.uppers)

    def served(self):
        """The names served."""
        return list(self.asked)

    def rows_of(self, name):
        """The rows of a hand, none where it has no script."""
        self.check_known(name)
        return [row for title, rows in self.scripts if title == name for row in rows]

    def upper_of(self, name):
        """The name of the hand of which this one is a part, or None of the root."""
        self.check_known(name)
        return self.uppers[name]

    def path_of(self, name):
        """The path of a hand."""
        self.check_known(name)
        return self.paths[name]

    def told(self):
        """The scripts, and the names served."""
        return (self.scripts, self.asked)


def plan_of(scripts, served=None):
    """The plan that is made of scripts and of names served, of any things."""
    uppers = uppers_by(scripts)
    asked = [] if served is None else served
    if not isinstance(asked, (list, tuple)):
        raise NoPlan(len(scripts))
    plan = Plan(tuple([(name, tuple(rows)) for name, rows in scripts]), tuple(asked), uppers)
    for thing in asked:
        plan.check_known(thing)
    return plan


def way_down(plan, name):
    """The names of the hands from the root down to this one."""
    names = [name]
    while plan.upper_of(names[-1]) is not None:
        names.append(plan.upper_of(names[-1]))
    return names[::-1]
