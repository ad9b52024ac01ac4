"""Points [81] to [84]: counts over all states of small machines."""

import unittest

from helpers import Case, no_whole_numbers
from splitseed.chains import Back, Chain
from splitseed.errors import NoPath, NoPlace, NoSeed, Spent, TooWide
from splitseed.hands import first_hand
from splitseed.machines import Machine
from splitseed.rounds import by_places, by_seeds, is_tally, takings, tally
from splitseed.shaped import taken
from splitseed.shapes import Below, Orders, Pair, Rows, Sets, Shares
from splitseed.steps import Cross, Fold, Lean, Plus, Rise, Times, Turn

STEPS = [Times(77), Fold(3), Plus(11), Back(Chain([Rise(2), Turn(3)])), Lean(5), Cross(45), Times(13)]

MACHINES = (
    Machine(0, 1, 0, 4), Machine(2, 1, 0, 2, STEPS), Machine(2, 2, 1, 2, STEPS), Machine(1, 2, 2, 1, STEPS), Machine(0, 1, 3, 3),
    Machine(1, 1, 6, 1, STEPS), Machine(4, 2, 1, 3, [Plus(3)]),
)
SHAPES = (
    Below(1), Below(3), Below(9), Below(16), Below(17), Below(40), Shares([3, 0, 2]), Shares([0, 0, 7]), Shares([1, 9, 3]), Orders(0),
    Orders(3), Sets(5, 2), Sets(4, 0), Pair(Shares([2, 1]), Below(3)), Rows(Below(2), 3), Rows(Shares([1, 0, 2]), 2),
    Pair(Orders(2), Rows(Pair(Below(2), Sets(3, 1)), 1)), Rows(Below(7), 0),
)


def counted(machine, shape):
    """What a tally should tell, by counting the outcomes of the single values."""
    values = [shape.of(value, machine.width) for value in range(2 ** machine.width)]
    return ([(outcome, values.count(outcome)) for outcome, many in shape.all_outcomes()], values.count(None))


def no_seeds(machine):
    return [-1, machine.seeds(), 10 ** 59] + no_whole_numbers()


def no_places(machine):
    return [-1, machine.length(), 10 ** 59] + no_whole_numbers()


def no_paths(machine):
    """Things that are no paths of a machine, new ones each time."""
    return [None, True, 0, "", [], [0], {}, (-1,), (machine.parts(),), (True,), ("0",), ((0,),), (0,) * (machine.depth + 1), Plus(1)]


class Tallies(Case):
    def test_each_outcome_as_often_as_it_should_come(self):
        seen = 0
        for machine in MACHINES:
            values = 2 ** machine.width
            for shape in SHAPES:
                if shape.numbers() > values:
                    self.refused(TooWide, [shape.numbers()], tally, machine, shape)
                    continue
                found = tally(machine, shape)
                self.same(found, counted(machine, shape))
                per = values // shape.numbers()
                self.same(found[0], [(outcome, many * per) for outcome, many in shape.all_outcomes()])
                self.same(found[1], values - per * shape.numbers())
                self.assertLess(2 * found[1], values)
                seen += found[1] > 0
        self.assertGreater(seen, 20)

    def test_some_tallies(self):
        self.same(tally(Machine(0, 1, 0, 4), Below(5)), ([(0, 3), (1, 3), (2, 3), (3, 3), (4, 3)], 1))
        self.same(tally(Machine(0, 1, 0, 4), Shares([2, 0, 1])), ([(0, 10), (2, 5)], 1))
        self.same(tally(Machine(1, 1, 0, 3, STEPS), Orders(2)), ([((0, 1), 8), ((1, 0), 8)], 0))

    def test_told_lists_are_new_ones(self):
        machine, shape = MACHINES[2], Below(5)
        tally(machine, shape)[0].clear()
        self.same(tally(machine, shape), counted(machine, shape))

    def test_machines_and_shapes_that_are_too_wide(self):
        twelve = Machine(3, 2, 2, 5, STEPS)
        self.same(tally(twelve, Below(1000)), ([(number, 4) for number in range(1000)], 96))
        self.same(tally(twelve, Rows(Below(3), 6)), counted(twelve, Rows(Below(3), 6)))
        for shape in (Below(1001), Below(4096), Orders(7), Below(4097), Below(2 ** 64), Sets(60, 30)):
            self.refused(TooWide, [shape.numbers()], tally, twelve, shape)
            self.refused(TooWide, [shape.numbers()], is_tally, twelve, shape, None)
        for machine in (Machine(4, 2, 2, 5), Machine(32, 5, 3, 16), Machine(0, 1, 0, 13), Machine(32, 5, 6, 2)):
            for shape in (Below(2), Below(1001), Below(2 ** 64)):
                self.refused(TooWide, [2 ** machine.width], tally, machine, shape)
                self.refused(TooWide, [2 ** machine.width], is_tally, machine, shape, None)
        self.refused(TooWide, [17], tally, Machine(0, 1, 0, 4), Below(17))
        self.same(tally(Machine(0, 1, 0, 4), Below(16)), ([(number, 1) for number in range(16)], 0))


class Checks(Case):
    def test_true_tallies(self):
        for machine in MACHINES:
            for shape in SHAPES:
                if shape.numbers() <= 2 ** machine.width:
                    self.same(is_tally(machine, shape, tally(machine, shape)), True)
                    self.same(is_tally(machine, shape, counted(machine, shape)), True)

    def test_forged_in_each_part(self):
        machine = Machine(2, 1, 0, 2, STEPS)
        for shape in (Below(1), Below(5), Below(16), Shares([1, 0, 1]), Orders(3), Pair(Below(2), Shares([1, 2])), Rows(Below(2), 0)):
            rows, thrown = tally(machine, shape)
            wrong = [None, True, 0, "", [], (), {}, rows, [rows, thrown], (rows,), (rows, thrown, 0), (thrown, rows), (tuple(rows), thrown)]
            wrong += [(rows, other) for other in (thrown + 1, thrown - 1, None, str(thrown), [thrown], Plus(1))]
            wrong += [(rows, bool(thrown))] if thrown in (0, 1) else []
            wrong += [(rows[:-1], thrown), (rows[1:], thrown), (rows + rows[-1:], thrown), (rows + [(0, 0)], thrown), (None, thrown)]
            if len(rows) > 1:
                wrong += [(rows[::-1], thrown), (rows[1:] + rows[:1], thrown)]
            for at, (outcome, times) in enumerate(rows):
                others = [list(rows[at]), (times, outcome, 0), (outcome,), None, (outcome, times + 1), (outcome, times - 1)]
                others += [(outcome, str(times)), (outcome, [times]), (outcome, None), (None, times), ([outcome], times), ((outcome,), times)]
                if times == 1:
                    others += [(outcome, True)]
                if isinstance(outcome, tuple):
                    others += [(list(outcome), times), (outcome + (0,), times), (outcome[:-1] if outcome else (0,), times)]
                    if outcome and outcome[0] in (0, 1):
                        others += [((bool(outcome[0]),) + outcome[1:], times)]
                else:
                    others += [(outcome + 1, times), (-1, times)] + ([(bool(outcome), times)] if outcome in (0, 1) else [])
                wrong += [(rows[:at] + [other] + rows[at + 1:], thrown) for other in others]
            for thing in wrong:
                self.same(is_tally(machine, shape, thing), False)
            self.same(is_tally(machine, shape, (list(rows), thrown)), True)

    def test_of_another_shape_or_machine(self):
        machine = Machine(2, 1, 0, 2, STEPS)
        self.same(is_tally(machine, Below(5), tally(machine, Below(4))), False)
        self.same(is_tally(machine, Below(5), tally(Machine(2, 1, 0, 3), Below(5))), False)
        self.same(is_tally(machine, Below(5), tally(Machine(0, 1, 0, 4), Below(5))), True)


class Lists(Case):
    def test_by_seeds(self):
        for machine in MACHINES:
            for shape in SHAPES:
                for path in [()] + [(0,) * machine.depth, (machine.parts() - 1,)] * (machine.depth > 0):
                    for place in {0, machine.length() - 1}:
                        if shape.numbers() > 2 ** machine.width:
                            self.refused(TooWide, [shape.numbers()], by_seeds, machine, shape, path, place)
                            continue
                        wanted = [shape.of(machine.state(seed, path, place), machine.width) for seed in range(machine.seeds())]
                        self.same(by_seeds(machine, shape, path, place), wanted)

    def test_by_places(self):
        for machine in MACHINES:
            for shape in SHAPES:
                for path in [()] + [(0,) * machine.depth, (machine.parts() - 1,)] * (machine.depth > 0):
                    for seed in {0, machine.seeds() - 1}:
                        if shape.numbers() > 2 ** machine.width:
                            self.refused(TooWide, [shape.numbers()], by_places, machine, shape, seed, path)
                            continue
                        wanted = [shape.of(machine.state(seed, path, place), machine.width) for place in range(machine.length())]
                        self.same(by_places(machine, shape, seed, path), wanted)

    def test_some_lists(self):
        # Without steps a state is its spot: the seed's figures, those of the digit, those of the place.
        machine = Machine(2, 1, 1, 2)
        self.same(by_seeds(machine, Below(4), (), 0), [0, 1, 2, 3])
        self.same(by_seeds(machine, Below(32), (0,), 3), [7, 15, 23, 31])
        self.same(by_seeds(machine, Below(17), (), 0), [0, 8, 16, None])
        self.same(by_places(machine, Below(32), 2, ()), [16, 17, 18, 19])
        self.same(by_places(machine, Below(17), 2, ()), [16, None, None, None])

    def test_at_most_twelve(self):
        shape = Below(2)
        self.same(len(by_seeds(Machine(12, 1, 0, 16), shape, (), 65535)), 4096)
        self.same(len(by_places(Machine(32, 1, 0, 12), shape, 2 ** 32 - 1, ())), 4096)
        for bits in (13, 32):
            machine = Machine(bits, 2, 1, 1)
            for path, place, wide in (((), 0, Below(2)), (None, None, Below(2)), ((), None, Below(2 ** 64))):
                self.refused(TooWide, [2 ** bits], by_seeds, machine, wide, path, place)
        for bits in (13, 16):
            machine = Machine(1, 2, 1, bits)
            for seed, path, wide in ((0, (), Below(2)), (None, None, Below(2)), (0, None, Below(2 ** 64))):
                self.refused(TooWide, [2 ** bits], by_places, machine, wide, seed, path)

    def test_the_order_of_the_refusals(self):
        for machine in (Machine(2, 2, 1, 2, STEPS), Machine(3, 1, 0, 2), Machine(0, 2, 2, 3)):
            for shape in (Below(2), Below(2 ** 64)):
                for thing in no_paths(machine):
                    self.refused(NoPath, [thing], by_seeds, machine, shape, thing, 0)
                    self.refused(NoPath, [thing], by_seeds, machine, shape, thing, None)
                    self.refused(NoPath, [thing], by_places, machine, shape, 0, thing)
                    self.refused(NoPath, [thing], takings, machine, shape, thing)
                for thing in no_places(machine):
                    self.refused(NoPlace, [thing], by_seeds, machine, shape, (), thing)
                for thing in no_seeds(machine):
                    self.refused(NoSeed, [thing], by_places, machine, shape, thing, ())
                    self.refused(NoSeed, [thing], by_places, machine, shape, thing, None)
            self.refused(TooWide, [2 ** 64], by_seeds, machine, Below(2 ** 64), (), 0)
            self.refused(TooWide, [2 ** 64], by_places, machine, Below(2 ** 64), 0, ())
            self.refused(TooWide, [2 ** 64], takings, machine, Below(2 ** 64), ())

    def test_told_lists_are_new_ones(self):
        machine = MACHINES[2]
        by_seeds(machine, Below(3), (), 0).clear()
        by_places(machine, Below(3), 0, ()).clear()
        found = takings(machine, Below(3), ())
        found[0].clear()
        found.clear()
        self.assertEqual(len(by_seeds(machine, Below(3), (), 0)), 4)
        self.assertEqual(len(by_places(machine, Below(3), 0, ())), 4)
        self.assertEqual(len(takings(machine, Below(3), ())[0]), 4)


class Takings(Case):
    def by_hand(self, machine, shape, seed, path):
        """The takings of one hand, one behind another."""
        hand = first_hand(machine, seed)
        for number in path:
            hand = hand.parted(machine.parts())[0][number]
        found = []
        while True:
            try:
                outcome, behind, paper = taken(hand, shape)
            except Spent:
                return found
            found.append((paper[2], len(paper[3]), outcome))
            hand = behind

    def test_takings_one_behind_another(self):
        seen = {"thrown": 0, "left out": 0}
        for machine in MACHINES:
            for shape in SHAPES:
                for path in [()] + [(0,) * machine.depth, (machine.parts() - 1,)] * (machine.depth > 0):
                    if shape.numbers() > 2 ** machine.width:
                        self.refused(TooWide, [shape.numbers()], takings, machine, shape, path)
                        continue
                    found = takings(machine, shape, path)
                    self.same(found, [self.by_hand(machine, shape, seed, path) for seed in range(machine.seeds())])
                    for rows in found:
                        seen["thrown"] += any(draws > 1 for place, draws, outcome in rows)
                        seen["left out"] += sum(draws for place, draws, outcome in rows) < machine.length()
        self.assertTrue(all(many > 10 for many in seen.values()), seen)

    def test_some_takings(self):
        # Without steps the states of the seed 1 are 8 to 15, of which the shape takes 8 alone.
        machine = Machine(1, 1, 0, 3)
        self.same(takings(machine, Below(9), ()), [[(place, 1, place) for place in range(8)], [(0, 1, 8)]])
        # By one step more they are 15 and then 0 to 6 for the one seed, 7 to 14 for the other.
        machine = Machine(1, 1, 0, 3, [Plus(15)])
        self.same(takings(machine, Below(9), ()), [
            [(0, 2, 0)] + [(place, 1, place - 1) for place in range(2, 8)], [(0, 1, 7), (1, 1, 8)],
        ])
        machine = Machine(1, 1, 0, 3, [Plus(2)])
        self.same(takings(machine, Below(9), ())[1], [(0, 7, 0), (7, 1, 1)])

    def test_at_most_twelve(self):
        self.same([len(rows) for rows in takings(Machine(6, 1, 0, 6), Below(2), ())], [64] * 64)
        self.same(len(takings(Machine(11, 5, 6, 1), Below(2), (30,) * 6)), 2048)
        self.same([len(rows) for rows in takings(Machine(0, 5, 6, 12), Below(2), (0, 5))], [4096])
        for seed_bits, place_bits in ((7, 6), (6, 7), (12, 1), (0, 13), (32, 16)):
            machine = Machine(seed_bits, 1, 1, place_bits)
            for path, shape in (((), Below(2)), (None, Below(2)), ((), Below(2 ** 64))):
                self.refused(TooWide, [2 ** (seed_bits + place_bits)], takings, machine, shape, path)


if __name__ == "__main__":
    unittest.main()
