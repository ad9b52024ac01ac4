"""What the tests have in common: things of all kinds, and how a refusal is looked at."""

import unittest

from splitseed import errors
from splitseed.steps import Plus

PLAIN = (int, str, bool, type(None))

FIELDS = {
    "NoNumber": ["found"], "NoWidth": ["found"], "NoStep": ["found"], "NoMachine": ["found"], "NoSeed": ["found"],
    "NoPath": ["found"], "NoPlace": ["found"], "NoState": ["found"], "NoText": ["at"], "NoHand": ["found"],
    "NoJoin": ["at"], "NoName": ["found"], "NoOrder": ["found"], "NoSet": ["found"], "NoShares": ["found"],
    "NoShape": ["found"], "NoRow": ["found"], "NoPaper": ["found"], "NoPlan": ["at"], "NoLine": ["line"],
    "NoHolder": ["found"], "TooWide": ["total"], "TooDeep": ["path"], "TooMany": ["path", "many"],
    "Spent": ["path", "place"], "Twice": ["name"], "Unknown": ["name"], "NoDepth": ["name", "at"],
    "NoParts": ["name", "at"], "Beyond": ["name", "place"],
}


def no_whole_numbers():
    """Things that are no whole numbers, new ones each time."""
    return [None, True, False, "", "5", "plus", [], [5], (), (5,), {}, {5: 5}, [[5], {"a": (1, True)}], Plus(5)]


def no_texts():
    """Things that are no texts, new ones each time."""
    return [None, True, False, 0, 7, -7, [], ["7"], (), ("7",), {}, {"7": "7"}, Plus(5)]


def alike(one, other):
    """Whether two things are the same in all their parts, of the same kinds too."""
    if type(one) is not type(other):
        return False
    if isinstance(one, (list, tuple)):
        return len(one) == len(other) and all(alike(a, b) for a, b in zip(one, other))
    return one == other


class Case(unittest.TestCase):
    def same(self, found, wanted):
        """The same value, of the same kinds in all parts: no truth for a number, no list for a tuple."""
        self.assertTrue(alike(found, wanted), f"found {found!r}, wanted {wanted!r}")

    def fields_of_refusal(self, kind, call, *things):
        """The fields of the refusal of just this kind by which the call is refused."""
        try:
            found = call(*things)
        except errors.SeedError as refusal:
            self.assertIs(type(refusal), kind, f"{things!r}")
            return [getattr(refusal, name) for name in FIELDS[kind.__name__]]
        return self.fail(f"not refused: {things!r} gave {found!r}")

    def refused(self, kind, fields, call, *things):
        """The call is refused with just this kind; things in its fields are the very ones, no copies."""
        told = self.fields_of_refusal(kind, call, *things)
        self.assertEqual(len(told), len(fields))
        for one, other in zip(told, fields):
            self.assertTrue(one is other or isinstance(one, PLAIN) and alike(one, other), f"{one!r}, not {other!r}")

    def refused_alike(self, kind, fields, call, *things):
        """As refused, of fields that are made by the program and were not handed in."""
        self.same(self.fields_of_refusal(kind, call, *things), fields)


# Some of them begin with one another, and some are words of a desk's lines.
NAMES = (
    "a b c d ab abc bc e f zzzzzzzz tree rest row g h i j k l m n o p q r s t u v w x y z aa bb cc dd ee ff"
).split()

SOME_SHAPES = (
    ("below", 6), ("below", 1), ("below", 33), ("below", 600), ("shares", (3, 0, 2)), ("orders", 3), ("orders", 0),
    ("sets", 5, 2), ("pair", ("below", 3), ("orders", 2)), ("rows", ("below", 2), 3),
    ("rows", ("pair", ("below", 2), ("sets", 3, 1)), 1),
)


def some_rows(chance, many, fresh, room):
    """Rows of one script by chance; fresh are the names that may still be given, room how many parts it may have."""
    rows, unjoined = [], []
    for word in chance.choices(("draw", "take", "shuffle", "jump", "part", "part", "join"), k=many):
        if word == "draw":
            rows.append((word, chance.randint(1, 5)))
        elif word == "take":
            rows.append((word, chance.choice(SOME_SHAPES)))
        elif word == "shuffle":
            rows.append((word, chance.randint(2, 5)))
        elif word == "jump":
            rows.append((word, chance.randint(0, 4)))
        elif word == "part" and fresh and room:
            names = tuple(fresh.pop() for k in range(min(chance.randint(1, 3), room, len(fresh))))
            room -= len(names)
            rows.append((word, names))
            unjoined.append(names)
        elif word == "join" and unjoined:
            names = list(unjoined.pop(chance.randrange(len(unjoined))))
            chance.shuffle(names)
            rows.append((word, tuple(names)))
    return rows


def some_scripts(chance, hands=9, rows=6, deep=3, parts=7):
    """Scripts by chance: at most so many hands, rows in a script, numbers in a path, and parts of one hand."""
    fresh = chance.sample(NAMES, hands)
    waiting = [(fresh.pop(), 0)]
    scripts = []
    while waiting:
        name, depth = waiting.pop(chance.randrange(len(waiting)))
        if scripts and chance.random() < 0.2:
            continue
        told = some_rows(chance, chance.randint(0, rows), fresh, parts if depth < deep else 0)
        scripts.append((name, told))
        waiting += [(part, depth + 1) for word, inner in told if word == "part" for part in inner]
    return scripts


def names_in(scripts):
    """The names of all hands of scripts, by coming."""
    parts = [part for name, rows in scripts for word, inner in rows if word == "part" for part in inner]
    return [scripts[0][0]] + parts


def paths_in(scripts):
    """The path of each hand of scripts, by its name."""
    paths = {scripts[0][0]: ()}
    for name, rows in scripts:
        parts = [part for word, inner in rows if word == "part" for part in inner]
        paths.update((part, paths[name] + (number,)) for number, part in enumerate(parts))
    return paths
