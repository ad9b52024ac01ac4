"""Points [116] and [117]: all numbers that a plan draws, and by whom."""

import random
import unittest

from helpers import Case, names_in, no_whole_numbers, paths_in, some_scripts
from splitseed.chains import Back, Chain
from splitseed.errors import Beyond, NoDepth, NoParts, NoSeed, NoState, SeedError, TooWide
from splitseed.ledgers import drawn_by, ledger, whose
from splitseed.machines import Machine
from splitseed.plans import plan_of
from splitseed.plantext import read_plan
from splitseed.shaped import shuffled, taken
from splitseed.hands import first_hand
from splitseed.shapes import Below, shape_of
from splitseed.steps import Cross, Fold, Lean, Plus, Times, Turn
from splitseed.tables import Table

STEPS = [Times(77), Fold(3), Plus(11), Back(Chain([Fold(2), Turn(3)])), Lean(5), Cross(45), Times(13)]


def some_plans(chance, many):
    """Machines, seeds and plans by chance, with a table of each that is served out; those refused are left out."""
    for turn in range(many):
        scripts = some_scripts(chance, hands=6, rows=6, deep=2, parts=3)
        plan = plan_of(scripts)
        machine = chance.choice((Machine(1, 2, 2, 5, STEPS), Machine(2, 2, 2, 5, STEPS), Machine(1, 2, 2, 5)))
        seed = chance.randrange(2)
        try:
            table = Table(machine, seed, plan)
        except SeedError:
            continue
        table.serve_out()
        yield machine, seed, plan, scripts, table


def no_states(machine):
    return [-1, 2 ** machine.width, 10 ** 59] + no_whole_numbers()


def no_seeds(machine):
    return [-1, machine.seeds(), 10 ** 59] + no_whole_numbers()


class Ledgers(Case):
    def test_a_ledger_by_figures(self):
        # Without steps a state is its spot: one figure of the seed, two for each number of the path, three of the place.
        machine = Machine(1, 2, 1, 3)
        plan = read_plan("hand a\ndraw 2\npart b c\njump 3\ndraw 1\njoin b c\ntake below 33\nhand c\ntake below 32\njump 2\ndraw 1")
        self.same(ledger(machine, 0, plan), [("a", 0, 0, (0, 1)), ("a", 3, 5, (5,)), ("a", 5, 6, (6,)), ("c", 0, 0, (16,)), ("c", 2, 3, (19,))])
        self.same(ledger(machine, 1, read_plan("hand a")), [])
        self.same(ledger(machine, 1, read_plan("hand a\njump 8\npart b\njoin b")), [])

    def test_numbers_that_are_thrown_away(self):
        # Of the numbers 14, 15, 0, 1 .. a shape below 9 throws the first two.
        machine = Machine(0, 1, 0, 4, [Plus(14)])
        plan = plan_of([("a", [("take", ("below", 9)), ("take", ("below", 9)), ("draw", 2)])])
        self.same(ledger(machine, 0, plan), [("a", 0, 0, (14, 15, 0)), ("a", 1, 3, (1,)), ("a", 2, 4, (2, 3))])
        for number, place in ((14, 0), (15, 1), (0, 2)):
            self.same(drawn_by(machine, 0, plan, number), ("a", 0, place))

    def test_more_than_a_thousand_numbers_in_one_row(self):
        # The first 2047 numbers are thrown, and the very last one is taken.
        machine = Machine(0, 1, 1, 11, [Plus(2049)])
        plan = plan_of([("a", [("take", ("below", 2049))])])
        found = ledger(machine, 0, plan)
        self.same(found, [("a", 0, 0, tuple(range(2049, 4096)) + (0,))])
        self.same(drawn_by(machine, 0, plan, 0), ("a", 0, 2047))

    def test_ledgers_by_chance_agree_with_the_table(self):
        chance = random.Random(116)
        seen = {"made": 0, "thrown": 0}
        for machine, seed, plan, scripts, table in some_plans(chance, 600):
            wanted = []
            for name in names_in(scripts):
                for at, (word, inner) in enumerate(dict(scripts).get(name, [])):
                    path, place, used = table.papers(name)[at]
                    numbers = tuple(machine.state(seed, paths_in(scripts)[name], place + k) for k in range(used))
                    if word == "draw":
                        self.same(table.came(name)[at], numbers)
                    if word == "take":
                        outcomes = [shape_of(inner).of(number, machine.width) for number in numbers]
                        self.same(outcomes, [None] * (used - 1) + [table.came(name)[at]])
                        seen["thrown"] += used > 1
                    if word in ("draw", "take", "shuffle"):
                        wanted.append((name, at, place, numbers))
            found = ledger(machine, seed, plan)
            self.same(found, wanted)
            every = [number for row in found for number in row[3]]
            self.assertEqual(len(every), len(set(every)))
            seen["made"] += 1
        self.assertTrue(all(many > 10 for many in seen.values()), seen)

    def test_shuffles_and_takings_by_the_hands_own_papers(self):
        machine = Machine(2, 2, 1, 6, STEPS)
        plan = read_plan("hand a\nshuffle 9\ntake below 300\ndraw 2")
        hand = first_hand(machine, 3)
        row, behind, papers = shuffled(hand, list(range(9)))
        outcome, behind, paper = taken(behind, Below(300))
        self.same(ledger(machine, 3, plan), [
            ("a", 0, 0, tuple(number for own in papers for number in own[3])), ("a", 1, paper[2], paper[3]),
            ("a", 2, behind.place, tuple(behind.draws(2)[0])),
        ])

    def test_told_lists_are_new_ones(self):
        machine, plan = Machine(1, 2, 1, 3), read_plan("hand a\ndraw 2")
        ledger(machine, 0, plan).clear()
        self.same(ledger(machine, 0, plan), [("a", 0, 0, (0, 1))])


class Drawers(Case):
    def test_every_number_of_small_machines(self):
        chance = random.Random(117)
        seen = {"drawn": 0, "not drawn": 0, "another seed": 0, "nobody's path": 0, "no path": 0}
        for machine, seed, plan, scripts, table in some_plans(chance, 12):
            rows = ledger(machine, seed, plan)
            at_path = {path: name for name, path in paths_in(scripts).items()}
            for number in range(2 ** machine.width):
                origin = machine.read_state(number)
                belongs = None
                if origin is None:
                    seen["no path"] += 1
                elif origin[0] != seed:
                    seen["another seed"] += 1
                elif origin[1] not in at_path:
                    seen["nobody's path"] += 1
                else:
                    belongs = (at_path[origin[1]], origin[2])
                self.same(whose(machine, seed, plan, number), belongs)
            numbers = {number: (name, at, place + k) for name, at, place, own in rows for k, number in enumerate(own)}
            others = chance.sample(range(2 ** machine.width), 12)
            for number in chance.sample(sorted(numbers), min(12, len(numbers))) + others:
                found = drawn_by(machine, seed, plan, number)
                self.same(found, numbers.get(number))
                seen["not drawn" if found is None else "drawn"] += 1
                if found is not None:
                    self.same(whose(machine, seed, plan, number), (found[0], found[2]))
        self.assertTrue(all(many > 20 for many in seen.values()), seen)

    def test_some_numbers(self):
        machine = Machine(1, 2, 1, 3)
        plan = read_plan("hand a\ndraw 2\npart b c\njump 3\ndraw 1\nhand c\njump 1\ndraw 1")
        for number, belongs, drawn in (
            (0, ("a", 0), ("a", 0, 0)), (1, ("a", 1), ("a", 0, 1)), (2, ("a", 2), None), (4, ("a", 4), None), (5, ("a", 5), ("a", 3, 5)),
            (6, ("a", 6), None), (8, ("b", 0), None), (16, ("c", 0), None), (17, ("c", 1), ("c", 1, 1)), (18, ("c", 2), None), (24, None, None),
            (32, None, None), (37, None, None), (49, None, None),
        ):
            self.same(whose(machine, 0, plan, number), belongs)
            self.same(drawn_by(machine, 0, plan, number), drawn)
        # Where a digit 0 stands ahead of another one, the number is the state of no path.
        deep = Machine(1, 1, 2, 2)
        self.same(whose(deep, 0, read_plan("hand a\npart b"), 4), None)
        self.same(drawn_by(deep, 0, read_plan("hand a\npart b"), 4), None)
        self.same(whose(deep, 0, read_plan("hand a\npart b"), 8), ("b", 0))


class Refusing(Case):
    def test_seeds_then_states_then_the_plan(self):
        machine = Machine(1, 2, 1, 3, STEPS)
        good, bad = read_plan("hand a\ndraw 8"), read_plan("hand a\ndraw 9")
        for plan in (good, bad):
            for seed in no_seeds(machine):
                self.refused(NoSeed, [seed], ledger, machine, seed, plan)
                for number in (0, None, -1):
                    self.refused(NoSeed, [seed], whose, machine, seed, plan, number)
                    self.refused(NoSeed, [seed], drawn_by, machine, seed, plan, number)
            for number in no_states(machine):
                self.refused(NoState, [number], whose, machine, 1, plan, number)
                self.refused(NoState, [number], drawn_by, machine, 1, plan, number)
        self.refused(Beyond, ["a", 0], ledger, machine, 1, bad)
        self.refused(Beyond, ["a", 0], drawn_by, machine, 1, bad, 0)
        self.same(whose(machine, 1, bad, machine.state(1, (), 7)), ("a", 7))

    def test_as_a_table_is_refused(self):
        machine = Machine(1, 2, 1, 3, STEPS)
        for text, kind, fields in (
            ("hand a\npart b c\nhand c\ndraw 9\nhand b\njump 9", Beyond, ["b", 0]), ("hand a\ndraw 1\npart b\nhand b\ndraw 2\npart c", NoDepth, ["b", 1]),
            ("hand a\npart b c d e", NoParts, ["a", 0]), ("hand a\npart b\nhand b\ndraw 1\ntake below 65\njump 9", TooWide, [65]),
            ("hand a\npart b c\nhand c\ntake below 65\nhand b\ndraw 8\ndraw 1", Beyond, ["b", 8]), ("hand a\ndraw 2\njump 7\npart b c d e", Beyond, ["a", 2]),
        ):
            plan = read_plan(text)
            self.refused(kind, fields, Table, machine, 0, plan)
            self.refused(kind, fields, ledger, machine, 0, plan)
            self.refused(kind, fields, drawn_by, machine, 0, plan, 5)

    def test_plans_by_chance(self):
        chance = random.Random(118)
        seen = {"made": 0, "refused": 0}
        for turn in range(200):
            plan = plan_of(some_scripts(chance, hands=7, rows=7))
            machine = chance.choice((Machine(1, 2, 2, 4, STEPS), Machine(0, 2, 3, 4, STEPS), Machine(0, 3, 1, 3, STEPS)))
            try:
                Table(machine, 0, plan)
            except SeedError as refusal:
                fields = [getattr(refusal, field) for field in ("total", "name", "at", "place") if hasattr(refusal, field)]
                self.refused(type(refusal), fields, ledger, machine, 0, plan)
                self.refused(type(refusal), fields, drawn_by, machine, 0, plan, 3)
                seen["refused"] += 1
            else:
                ledger(machine, 0, plan)
                seen["made"] += 1
        self.assertTrue(all(many > 20 for many in seen.values()), seen)


if __name__ == "__main__":
    unittest.main()
