"""What the tests have in common: things of all kinds, and how a refusal is looked at."""

import unittest

from splitseed import errors
from splitseed.steps import Plus

PLAIN = (int, str, bool, type(None))

FIELDS = {
    "NoNumber": ["found"], "NoWidth": ["found"], "NoStep": ["found"], "NoMachine": ["found"], "NoSeed": ["found"],
    "NoPath": ["found"], "NoPlace": ["found"], "NoState": ["found"], "NoText": ["at"], "NoHand": ["found"],
    "NoJoin": ["at"], "NoName": ["found"], "NoOrder": ["found"], "NoSet": ["found"], "NoShares": ["found"],
    "NoShape": ["found"], "NoRow": ["found"], "NoPaper": ["found"], "NoPlan": ["at"], "NoLine": ["line"],
    "NoHolder": ["found"], "TooWide": ["total"], "TooDeep": ["path"], "TooMany": ["path", "many"],
    "Spent": ["path", "place"], "Twice": ["name"], "Unknown": ["name"], "NoDepth": ["name", "at"],
    "NoParts": ["name", "at"], "Beyond": ["name", "place"],
}


def no_whole_numbers():
    """Things that are no whole numbers, new ones each time."""
    return [None, True, False, "", "5", "plus", [], [5], (), (5,), {}, {5: 5}, [[5], {"a": (1, True)}], Plus(5)]


def no_texts():
    """Things that are no texts, new ones each time."""
    return [None, True, False, 0, 7, -7, [], ["7"], (), ("7",), {}, {"7": "7"}, Plus(5)]


def alike(one, other):
    """Whether two things are the same in all their parts, of the same kinds too."""
    if type(one) is not type(other):
        return False
    if isinstance(one, (list, tuple)):
        return len(one) == len(other) and all(alike(a, b) for a, b in zip(one, other))
    return one == other


class Case(unittest.TestCase):
    def same(self, found, wanted):
        """The same value, of the same kinds in all parts: no truth for a number, no list for a tuple."""
        self.assertTrue(alike(found, wanted), f"found {found!r}, wanted {wanted!r}")

    def fields_of_refusal(self, kind, call, *things):
        """The fields of the refusal of just this kind by which the call is refused."""
        try:
            found = call(*things)
        except errors.SeedError as refusal:
            self.assertIs(type(refusal), kind, f"{things!r}")
            return [getattr(refusal, name) for name in FIELDS[kind.__name__]]
        return self.fail(f"not refused: {things!r} gave {found!r}")

    def refused(self, kind, fields, call, *things):
        """The call is refused with just this kind; things in its fields are the very ones, no copies."""
        told = self.fields_of_refusal(kind, call, *things)
        self.assertEqual(len(told), len(fields))
        for one, other in zip(told, fields):
            self.assertTrue(one is other or isinstance(one, PLAIN) and alike(one, other), f"{one!r}, not {other!r}")

    def refused_alike(self, kind, fields, call, *things):
        """As refused, of fields that are made by the program and were not handed in."""
        self.same(self.fields_of_refusal(kind, call, *things), fields)
