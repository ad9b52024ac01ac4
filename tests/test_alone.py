"""Points [101] and [102]: what comes of a single hand of a plan, and what is refused ahead."""

import random
import unittest

from helpers import Case, NAMES, names_in, no_whole_numbers, paths_in, some_scripts
from splitseed.alone import alone
from splitseed.chains import Back, Chain
from splitseed.errors import Beyond, NoDepth, NoParts, NoSeed, SeedError, TooWide, Unknown
from splitseed.hands import first_hand
from splitseed.machines import Machine
from splitseed.plans import plan_of
from splitseed.plantext import read_plan
from splitseed.shaped import shuffled, taken
from splitseed.shapes import shape_of
from splitseed.steps import Cross, Fold, Lean, Plus, Times, Turn

STEPS = [Times(77), Fold(3), Plus(11), Back(Chain([Fold(2), Turn(3)])), Lean(5), Cross(45), Times(13)]

MACHINES = (
    Machine(2, 3, 3, 6, STEPS), Machine(1, 2, 2, 5, STEPS), Machine(0, 1, 3, 4, STEPS), Machine(3, 3, 1, 4, STEPS), Machine(2, 1, 0, 3, STEPS),
    Machine(2, 3, 3, 6), Machine(0, 2, 1, 2),
)


class Enough(Exception):
    """There are not so many places left."""


class Places:
    """The draws of one seed and path, one behind the other; knows nothing of the package but a machine's states."""

    def __init__(self, machine, seed, path):
        self.machine, self.seed, self.path, self.place = machine, seed, path, 0

    def draw(self):
        if self.place == 2 ** self.machine.place_bits:
            raise Enough
        self.place += 1
        return self.machine.state(self.seed, self.path, self.place - 1)

    def below(self, bound):
        """Draws until a number is not thrown away, and tells the number below the bound."""
        while True:
            number = self.draw() // (2 ** self.machine.width // bound)
            if number < bound:
                return number

    def row(self, word, inner):
        if word == "draw":
            return tuple([self.draw() for k in range(inner)])
        if word == "take":
            shape = shape_of(inner)
            return shape.outcome(self.below(shape.numbers()))
        if word == "shuffle":
            things = list(range(inner))
            for last in range(inner - 1, 0, -1):
                at = self.below(last + 1)
                things[last], things[at] = things[at], things[last]
            return tuple(things)
        if word == "jump":
            if self.place + inner > 2 ** self.machine.place_bits:
                raise Enough
            self.place += inner
            return self.place
        return inner


def too_wide(machine, word, inner):
    """How many numbers a row has that are too many, or None."""
    many = shape_of(inner).numbers() if word == "take" else inner if word == "shuffle" else 0
    return many if many > 2 ** machine.width else None


def refusal_on_the_way(machine, scripts, name):
    """The refusal that is due as a hand cannot come, or None."""
    paths = paths_in(scripts)
    path = paths[name]
    at_path = {own: other for other, own in paths.items()}
    for depth in range(len(path)):
        upper, lower = at_path[path[:depth]], at_path[path[:depth + 1]]
        rows = dict(scripts)[upper]
        at = [k for k, (word, inner) in enumerate(rows) if word == "part" and lower in inner][0]
        if depth >= machine.depth:
            return NoDepth, [upper, at]
        if path[depth] >= 2 ** machine.part_bits - 1:
            return NoParts, [upper, at]
    return None


def wanted_alone(machine, seed, scripts, name):
    """The tuple that is due, or the kind and the fields of the refusal."""
    refusal = refusal_on_the_way(machine, scripts, name)
    if refusal:
        return refusal
    path = paths_in(scripts)[name]
    own = Places(machine, seed, path)
    came, papers, parts = [], [], 0
    for at, (word, inner) in enumerate(dict(scripts).get(name, [])):
        start = own.place
        if word == "part":
            parts += len(inner)
            if len(path) == machine.depth:
                return NoDepth, [name, at]
            if parts > 2 ** machine.part_bits - 1:
                return NoParts, [name, at]
        if too_wide(machine, word, inner) is not None:
            return TooWide, [too_wide(machine, word, inner)]
        try:
            came.append(own.row(word, inner))
        except Enough:
            return Beyond, [name, start]
        papers.append((path, start, own.place - start))
    return came, papers


class Telling(Case):
    def test_hands_of_plans_by_chance(self):
        chance = random.Random(101)
        seen = {"told": 0, "thrown": 0, NoDepth: 0, NoParts: 0, TooWide: 0, Beyond: 0}
        for turn in range(1000):
            scripts = some_scripts(chance, hands=8, rows=7)
            plan = plan_of(scripts)
            machine = chance.choice(MACHINES)
            seed = chance.randrange(machine.seeds())
            for name in names_in(scripts):
                wanted = wanted_alone(machine, seed, scripts, name)
                if isinstance(wanted[0], list):
                    found = alone(machine, seed, plan, name)
                    self.same(found, wanted)
                    seen["told"] += 1
                    rows = dict(scripts).get(name, [])
                    seen["thrown"] += any(word == "take" and paper[2] > 1 for (word, inner), paper in zip(rows, found[1]))
                else:
                    self.refused(wanted[0], wanted[1], alone, machine, seed, plan, name)
                    seen[wanted[0]] += 1
        self.assertTrue(all(many >= 10 for many in seen.values()), seen)

    def test_rows_of_all_kinds_by_the_hands_own_deeds(self):
        machine = MACHINES[0]
        text = "hand a\ndraw 3\ntake orders 3\npart b c\nshuffle 5\njump 4\njoin c b\ntake below 33\njump 0\ndraw 1\nhand c\ntake below 6"
        plan = read_plan(text)
        for seed in range(4):
            hand = first_hand(machine, seed)
            came, papers = alone(machine, seed, plan, "a")
            drawn, behind = hand.draws(3)
            outcome, behind, first = taken(behind, shape_of(("orders", 3)))
            row, behind, swaps = shuffled(behind, [0, 1, 2, 3, 4])
            jumped = behind.jumped(4)
            last, behind, second = taken(jumped, shape_of(("below", 33)))
            self.same(came, [
                tuple(drawn), outcome, ("b", "c"), tuple(row), jumped.place, ("c", "b"), last, behind.place, (behind.draw()[0],),
            ])
            used = [3, len(first[3]), 0, sum(len(paper[3]) for paper in swaps), 4, 0, len(second[3]), 0, 1]
            self.same(papers, [((), sum(used[:k]), many) for k, many in enumerate(used)])
            part = hand.parted(2)[0][1]
            outcome, behind, paper = taken(part, shape_of(("below", 6)))
            self.same(alone(machine, seed, plan, "c"), ([outcome], [((1,), 0, len(paper[3]))]))
            self.same(alone(machine, seed, plan, "b"), ([], []))

    def test_some_rows_by_figures(self):
        # Without steps a state is its spot: two figures of the seed, two of the path, three of the place.
        machine = Machine(2, 2, 1, 3)
        plan = read_plan("hand a\ndraw 2\npart b c\njump 5\ndraw 1\nhand c\njump 1\ntake below 100\nhand b\ntake below 77")
        self.same(alone(machine, 1, plan, "a"), ([(32, 33), ("b", "c"), 7, (39,)], [((), 0, 2), ((), 2, 0), ((), 2, 5), ((), 7, 1)]))
        self.same(alone(machine, 2, plan, "c"), ([1, 81], [((1,), 0, 1), ((1,), 1, 1)]))
        self.same(alone(machine, 2, plan, "b"), ([72], [((0,), 0, 1)]))
        self.refused(Beyond, ["b", 0], alone, machine, 3, plan, "b")

    def test_takings_that_throw_numbers_away(self):
        # Of the numbers 14, 15, 0, 1 .. the first two are thrown.
        machine = Machine(0, 1, 0, 4, [Plus(14)])
        plan = plan_of([("a", [("take", ("below", 9)), ("take", ("below", 9)), ("draw", 1)])])
        self.same(alone(machine, 0, plan, "a"), ([0, 1, (2,)], [((), 0, 3), ((), 3, 1), ((), 4, 1)]))

    def test_it_hangs_on_no_other_hand(self):
        machine = MACHINES[0]
        rows = [("draw", 2), ("take", ("orders", 3)), ("part", ("d", "e")), ("draw", 1)]
        one = plan_of([("a", [("part", ("b", "c"))]), ("c", rows)])
        other = plan_of([("a", [("draw", 60), ("part", ("b", "c")), ("join", ("b", "c")), ("draw", 4)]), ("b", [("draw", 9)]), ("c", rows)], ["a"])
        for seed in range(4):
            self.same(alone(machine, seed, one, "c"), alone(machine, seed, other, "c"))

    def test_told_lists_are_new_ones(self):
        machine = MACHINES[0]
        plan = read_plan("hand a\ndraw 2\npart b")
        before = alone(machine, 1, plan, "a")
        for told in alone(machine, 1, plan, "a"):
            told.clear()
        self.same(alone(machine, 1, plan, "a"), before)


class Ends(Case):
    def test_rows_that_end_just_at_the_last_place(self):
        machine = Machine(2, 2, 1, 3, STEPS)
        for text in ("draw 8", "draw 3\ndraw 5", "jump 8", "jump 7\ndraw 1", "jump 3\njump 5", "jump 8\njump 0", "draw 8\njump 0\npart b"):
            plan = read_plan("hand a\n" + text)
            came, papers = alone(machine, 3, plan, "a")
            self.same(papers[-1][1] + papers[-1][2], 8)
        self.same(alone(machine, 0, read_plan("hand a\njump 8\njump 0"), "a"), ([8, 8], [((), 0, 8), ((), 8, 0)]))

    def test_one_place_too_far(self):
        machine = Machine(2, 2, 1, 3, STEPS)
        for text, place in (
            ("draw 9", 0), ("draw 3\ndraw 6", 3), ("jump 9", 0), ("jump 8\ndraw 1", 8), ("jump 3\njump 6", 3), ("jump 8\njump 1", 8),
            ("jump 8\ntake below 1", 8), ("jump 8\nshuffle 2", 8), ("jump 1\njump 65536", 1), ("draw 8\npart b\njoin b\ndraw 1", 8), ("draw 100", 0),
        ):
            self.refused(Beyond, ["a", place], alone, machine, 1, read_plan("hand a\n" + text), "a")

    def test_takings_and_shuffles_at_the_end(self):
        machine = Machine(2, 2, 1, 3, STEPS)
        seen = {"told": 0, "beyond": 0}
        for seed in range(4):
            for place in range(9):
                for row in (("take", ("below", 65)), ("take", ("below", 6)), ("shuffle", 2), ("shuffle", 5)):
                    scripts = [("a", [("jump", place), row])]
                    wanted = wanted_alone(machine, seed, scripts, "a")
                    if wanted[0] is Beyond:
                        self.refused(Beyond, ["a", place], alone, machine, seed, plan_of(scripts), "a")
                        seen["beyond"] += 1
                    else:
                        self.same(alone(machine, seed, plan_of(scripts), "a"), wanted)
                        seen["told"] += 1
        self.assertTrue(all(many > 10 for many in seen.values()), seen)

    def test_the_longest_jump(self):
        machine = Machine(4, 1, 0, 16)
        self.same(alone(machine, 0, read_plan("hand a\njump 65536"), "a"), ([65536], [((), 0, 65536)]))
        self.refused(Beyond, ["a", 1], alone, machine, 0, read_plan("hand a\ndraw 1\njump 65536"), "a")


class Refusing(Case):
    def test_seeds_then_names(self):
        machine = Machine(2, 1, 0, 3, STEPS)
        plan = read_plan("hand a\npart b\ndraw 100")
        for seed in [-1, 4, 10 ** 59] + no_whole_numbers():
            for name in ("a", "b", "x", None, ["a"]):
                self.refused(NoSeed, [seed], alone, machine, seed, plan, name)
        for name in (None, True, 5, "", "x", "A", "house", [], ["a"], ("a",), {}, {"a": 1}, plan, Plus(1)):
            self.refused(Unknown, [name], alone, machine, 3, plan, name)

    def test_hands_too_deep_seen_from_below(self):
        text = "hand a\ndraw 1\npart b\nhand b\ndraw 2\njump 1\npart c d\nhand d\npart e\nhand e\ndraw 1"
        plan = read_plan(text)
        for depth, refusals in ((0, ("a", 1)), (1, ("b", 2)), (2, ("d", 0))):
            machine = Machine(3, 2, depth, 6, STEPS)
            self.refused(NoDepth, list(refusals), alone, machine, 0, plan, "e")
            self.refused(NoDepth, list(refusals), alone, machine, 0, plan, refusals[0])
        self.refused(NoDepth, ["a", 1], alone, Machine(3, 2, 0, 6), 0, plan, "c")
        self.refused(NoDepth, ["b", 2], alone, Machine(3, 2, 1, 6), 0, plan, "c")
        self.same(alone(Machine(3, 2, 2, 6), 0, plan, "c"), ([], []))
        self.same(len(alone(Machine(3, 2, 3, 6), 0, plan, "e")[0]), 1)

    def test_hands_of_too_many_parts_seen_from_below(self):
        text = "hand a\npart b c\njoin b c\npart d e\npart f\nhand e\npart g\nhand f\npart h\nhand g\ndraw 1"
        plan = read_plan(text)
        machine = Machine(3, 2, 3, 6, STEPS)
        for name in ("d",):
            self.same(alone(machine, 0, plan, name), ([], []))
        for name in ("e", "g"):
            self.refused(NoParts, ["a", 2], alone, machine, 0, plan, name)
        for name in ("f", "h"):
            self.refused(NoParts, ["a", 3], alone, machine, 0, plan, name)
        self.refused(NoParts, ["a", 2], alone, machine, 0, plan, "a")
        self.refused(NoParts, ["a", 0], alone, Machine(3, 1, 3, 6), 0, plan, "a")
        self.refused(NoParts, ["a", 0], alone, Machine(3, 1, 3, 6), 0, plan, "c")
        self.same(alone(Machine(3, 1, 3, 6), 0, plan, "b"), ([], []))

    def test_depth_ahead_of_parts(self):
        plan = read_plan("hand a\npart b c\nhand c\npart d e")
        self.refused(NoDepth, ["a", 0], alone, Machine(3, 1, 0, 6), 0, plan, "c")
        self.refused(NoDepth, ["a", 0], alone, Machine(3, 1, 0, 6), 0, plan, "a")
        self.refused(NoParts, ["a", 0], alone, Machine(3, 1, 1, 6), 0, plan, "e")

    def test_more_children_than_any_machine_has(self):
        names = [" ".join(NAMES[k] for k in range(low, high)) for low, high in ((1, 21), (21, 39))]
        plan = read_plan(f"hand a\npart {names[0]}\ndraw 1\npart {names[1]}")
        machine = Machine(3, 5, 2, 6, STEPS)
        self.same(alone(machine, 0, plan, NAMES[31]), ([], []))
        for k in range(32, 39):
            self.refused(NoParts, ["a", 2], alone, machine, 0, plan, NAMES[k])
        self.refused(NoParts, ["a", 2], alone, machine, 0, plan, "a")

    def test_a_hand_is_not_refused_by_the_rows_of_others(self):
        # The upper's own rows are refused, but nothing of that keeps its part from coming.
        plan = read_plan("hand a\ndraw 100\ntake orders 20\npart b c\nhand b\ndraw 1\nhand c\ndraw 100")
        machine = Machine(3, 2, 1, 6, STEPS)
        self.refused(Beyond, ["a", 0], alone, machine, 0, plan, "a")
        self.same(alone(machine, 0, plan, "b")[1], [((0,), 0, 1)])
        self.refused(Beyond, ["c", 0], alone, machine, 0, plan, "c")

    def test_too_wide(self):
        machine = Machine(1, 1, 0, 3, STEPS)
        for row, total in (
            (("take", ("below", 17)), 17), (("take", ("orders", 4)), 24), (("take", ("rows", ("below", 2), 5)), 32), (("shuffle", 17), 17),
            (("shuffle", 30), 30), (("take", ("below", 2 ** 64)), 2 ** 64),
        ):
            self.refused(TooWide, [total], alone, machine, 0, plan_of([("a", [row])]), "a")
            # It is due ahead of the places that are left, but behind the rows ahead of it.
            self.refused(TooWide, [total], alone, machine, 0, plan_of([("a", [("jump", 8), row])]), "a")
            self.refused(Beyond, ["a", 0], alone, machine, 0, plan_of([("a", [("draw", 9), row])]), "a")
            self.refused(TooWide, [total], alone, machine, 0, plan_of([("a", [row, ("draw", 9), ("part", ("b",))])]), "a")
        self.refused(Beyond, ["a", 0], alone, machine, 0, plan_of([("a", [("shuffle", 16)])]), "a")
        self.same(len(alone(machine, 0, plan_of([("a", [("take", ("below", 16))])]), "a")[0]), 1)

    def test_row_by_row(self):
        machine = Machine(1, 1, 1, 3, STEPS)
        rows = {"part": ("part", ("b", "c")), "wide": ("take", ("below", 64)), "far": ("draw", 9)}
        due = {"part": (NoParts, ["a", 1]), "wide": (TooWide, [64]), "far": (Beyond, ["a", 2])}
        for first in rows:
            for second in rows:
                plan = plan_of([("a", [("draw", 2), rows[first]] + [rows[second]] * (first != second))])
                self.refused(due[first][0], due[first][1], alone, machine, 0, plan, "a")

    def test_nothing_is_changed_by_a_refusal(self):
        machine = Machine(2, 2, 1, 3, STEPS)
        plan = read_plan("hand a\ndraw 3\npart b\ndraw 6\nserve a")
        told = plan.told()
        for turn in range(2):
            self.assertRaises(SeedError, alone, machine, 0, plan, "a")
            self.same(plan.told(), told)


if __name__ == "__main__":
    unittest.main()
