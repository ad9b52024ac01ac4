"""Points [111] to [113]: whose a number is, and stretches that meet or do not."""

import itertools
import unittest

from helpers import Case, no_whole_numbers
from splitseed.chains import Back, Chain
from splitseed.errors import NoRow, NoState, TooWide
from splitseed.hands import first_hand
from splitseed.machines import Machine
from splitseed.origins import covers, is_meeting, meeting, numbers_of, origin_of
from splitseed.steps import Cross, Fold, Lean, Plus, Times, Turn

STEPS = [Times(77), Fold(3), Plus(11), Back(Chain([Fold(2), Turn(3)])), Lean(5), Cross(45), Times(13)]

MACHINES = (
    Machine(1, 2, 2, 2, STEPS), Machine(1, 2, 2, 2), Machine(2, 1, 0, 2, STEPS), Machine(2, 1, 0, 2), Machine(0, 1, 3, 2, STEPS),
    Machine(0, 2, 1, 3), Machine(1, 1, 2, 1, STEPS),
)


def paths(machine):
    """All paths of a machine."""
    return [path for depth in range(machine.depth + 1) for path in itertools.product(range(machine.parts()), repeat=depth)]


def spots(machine):
    """All seeds, paths and places of a machine."""
    return list(itertools.product(range(machine.seeds()), paths(machine), range(machine.length())))


def no_states(machine):
    return [-1, 2 ** machine.width, 10 ** 59] + no_whole_numbers()


def no_stretches(machine):
    """Things that are no stretches of a machine, new ones each time."""
    length, seeds, parts = machine.length(), machine.seeds(), machine.parts()
    found = [None, True, 5, "", "stretch", [], (), {}, [0, (), 0, 1], (0, (), 0), (0, (), 0, 1, 0), ((0, (), 0, 1),), (0, 0, (), 1), Plus(1), machine]
    found += [first_hand(machine, 0), first_hand(machine, 0).told(), {0: (0, (), 0, 1)}]
    found += [(seed, (), 0, 1) for seed in [-1, seeds, 10 ** 59] + no_whole_numbers()]
    found += [(0, path, 0, 1) for path in (None, 0, True, [], [0], "", (-1,), (parts,), (True,), ("0",), (0,) * (machine.depth + 1), ((),), {})]
    found += [(0, (), place, 0) for place in [-1, length + 1, 10 ** 59] + no_whole_numbers()]
    found += [(0, (), 0, many) for many in [-1, length + 1, 10 ** 59] + no_whole_numbers()]
    found += [(0, (), length, 1), (0, (), 1, length), (0, (), length - 1, 2), (0, (), length, -1)]
    return found


class Origins(Case):
    def test_every_number_of_small_machines(self):
        seen = {"some": 0, "none": 0}
        for machine in MACHINES:
            whose = {machine.state(*spot): spot for spot in spots(machine)}
            for number in range(2 ** machine.width):
                found = origin_of(machine, number)
                self.same(found, whose.get(number))
                seen["none" if found is None else "some"] += 1
        self.assertTrue(all(many > 40 for many in seen.values()), seen)

    def test_what_a_hand_draws_is_its_own(self):
        machine = Machine(32, 5, 3, 16, STEPS)
        hand = first_hand(machine, 2 ** 32 - 1)
        for number in (30, 0, 7):
            self.same(origin_of(machine, hand.jumped(65535).draw()[0]), (2 ** 32 - 1, hand.path, 65535))
            hand = hand.parted(31)[0][number]
        self.same(origin_of(machine, hand.draw()[0]), (2 ** 32 - 1, (30, 0, 7), 0))

    def test_refusals(self):
        for machine in MACHINES:
            for thing in no_states(machine):
                self.refused(NoState, [thing], origin_of, machine, thing)


class Stretches(Case):
    def test_numbers_of_all_stretches(self):
        for machine in MACHINES:
            for seed in range(machine.seeds()):
                for path in paths(machine):
                    states = [machine.state(seed, path, place) for place in range(machine.length())]
                    for place in range(machine.length() + 1):
                        for many in range(machine.length() - place + 1):
                            self.same(numbers_of(machine, (seed, path, place, many)), states[place:place + many])

    def test_they_are_the_draws_of_the_hand(self):
        machine = Machine(4, 2, 2, 12, STEPS)
        hand = first_hand(machine, 9).parted(3)[0][2].jumped(17)
        self.same(numbers_of(machine, (9, (2,), 17, 1000)), hand.draws(1000)[0])

    def test_more_than_a_thousand(self):
        machine = Machine(0, 2, 1, 11, STEPS)
        self.same(len(numbers_of(machine, (0, (0,), 1048, 1000))), 1000)
        for many in (1001, 2048):
            self.refused(TooWide, [many], numbers_of, machine, (0, (0,), 2048 - many, many))
        self.refused(TooWide, [1001], numbers_of, machine, (0, (), 0, 1001))
        thing = (0, (), 0, 2049)
        self.refused(NoRow, [thing], numbers_of, machine, thing)
        # Whether it covers a number, and where it meets another, is told of longer ones, too.
        self.same(covers(machine, (0, (0,), 0, 2048), machine.state(0, (0,), 2047)), True)
        self.same(meeting(machine, (0, (), 0, 2048), (0, (), 5, 2000)), ("meets", 5, 2000))

    def test_told_lists_are_new_ones(self):
        numbers_of(MACHINES[0], (0, (), 0, 3)).clear()
        self.same(len(numbers_of(MACHINES[0], (0, (), 0, 3))), 3)

    def test_covers_just_its_numbers(self):
        for machine in MACHINES:
            stretches = [(seed, path, place, many) for seed in {0, machine.seeds() - 1} for path in paths(machine)[::3]
                         for place in range(machine.length() + 1) for many in range(machine.length() - place + 1)]
            for stretch in stretches[::2]:
                numbers = numbers_of(machine, stretch)
                self.same([covers(machine, stretch, number) for number in range(2 ** machine.width)],
                          [number in numbers for number in range(2 ** machine.width)])

    def test_refusals_and_their_order(self):
        for machine in MACHINES:
            for thing in no_stretches(machine):
                self.refused(NoRow, [thing], numbers_of, machine, thing)
                self.refused(NoRow, [thing], covers, machine, thing, 0)
                self.refused(NoRow, [thing], covers, machine, thing, None)
            for thing in no_states(machine):
                self.refused(NoState, [thing], covers, machine, (0, (), 0, 1), thing)
                self.refused(NoState, [thing], covers, machine, (0, (), 0, 0), thing)


class Meetings(Case):
    def wanted(self, machine, one, other):
        """What is due, by the digits and the places themselves."""
        if one[0] != other[0]:
            return ("seed",)
        digits = [[number + 1 for number in path] + [0] * (machine.depth - len(path)) for path in (one[1], other[1])]
        for at in range(machine.depth):
            if digits[0][at] != digits[1][at]:
                return ("path", at)
        both = sorted(set(range(one[2], one[2] + one[3])) & set(range(other[2], other[2] + other[3])))
        return ("meets", both[0], len(both)) if both else ("ends",)

    def test_all_pairs_of_stretches_of_one_hand(self):
        for machine in (Machine(1, 2, 2, 2, STEPS), Machine(1, 1, 0, 3), Machine(0, 2, 1, 2, STEPS)):
            for path in paths(machine)[::4]:
                own = [(0, path, place, many) for place in range(machine.length() + 1) for many in range(machine.length() - place + 1)]
                for one in own:
                    for other in own:
                        self.same(meeting(machine, one, other), self.wanted(machine, one, other))

    def test_all_pairs_of_paths_and_seeds(self):
        for machine in (Machine(1, 2, 2, 2, STEPS), Machine(1, 1, 4, 1), Machine(1, 2, 3, 1)):
            own = [(seed, path, place, many) for seed in range(2) for path in paths(machine) for place, many in ((0, 2), (1, 1), (0, 0))]
            for one in own[::2]:
                for other in own[::3]:
                    self.same(meeting(machine, one, other), self.wanted(machine, one, other))

    def test_some_meetings(self):
        machine = Machine(2, 2, 3, 3, STEPS)
        for one, other, wanted in (
            ((0, (), 0, 8), (1, (), 0, 8), ("seed",)), ((0, (1,), 0, 8), (3, (2,), 4, 0), ("seed",)), ((1, (), 0, 8), (1, (0,), 0, 8), ("path", 0)),
            ((1, (0,), 0, 8), (1, (0, 0), 0, 8), ("path", 1)), ((1, (0, 2, 1), 0, 8), (1, (0, 2), 0, 8), ("path", 2)),
            ((1, (0, 2, 1), 0, 8), (1, (0, 2, 0), 5, 0), ("path", 2)), ((1, (1, 2), 0, 8), (1, (2, 2), 0, 8), ("path", 0)),
            ((1, (1,), 0, 3), (1, (1,), 3, 3), ("ends",)), ((1, (1,), 3, 3), (1, (1,), 0, 3), ("ends",)), ((1, (), 2, 0), (1, (), 0, 8), ("ends",)),
            ((1, (), 8, 0), (1, (), 8, 0), ("ends",)), ((1, (), 3, 0), (1, (), 3, 0), ("ends",)), ((1, (), 0, 4), (1, (), 3, 5), ("meets", 3, 1)),
            ((1, (), 0, 8), (1, (), 0, 8), ("meets", 0, 8)), ((1, (), 0, 8), (1, (), 2, 3), ("meets", 2, 3)), ((1, (), 4, 4), (1, (), 1, 5), ("meets", 4, 2)),
        ):
            self.same(meeting(machine, one, other), wanted)
            self.same(is_meeting(machine, one, other, wanted), True)
            self.same(meeting(machine, other, one), wanted)

    def test_they_have_just_these_numbers_in_common(self):
        machine = MACHINES[0]
        own = [(seed, path, place, many) for seed in range(2) for path in paths(machine)[::5] for place in range(3) for many in range(5 - place)]
        met = 0
        for one in own:
            for other in own:
                found = meeting(machine, one, other)
                common = [number for number in numbers_of(machine, one) if number in numbers_of(machine, other)]
                if found[0] == "meets":
                    self.same(common, numbers_of(machine, one[:2] + found[1:]))
                    self.assertEqual(len(common), found[2])
                    met += 1
                else:
                    self.same(common, [])
        self.assertGreater(met, 20)

    def test_forged_in_each_part(self):
        machine = Machine(2, 2, 3, 3, STEPS)
        cases = [
            ((0, (), 0, 8), (1, (), 0, 8)), ((1, (), 0, 8), (1, (0,), 0, 8)), ((1, (0,), 0, 8), (1, (0, 1), 0, 8)),
            ((1, (), 0, 3), (1, (), 3, 3)), ((1, (), 0, 2), (1, (), 1, 1)), ((1, (), 0, 1), (1, (), 0, 1)), ((2, (), 0, 6), (2, (), 3, 5)),
        ]
        every = [("seed",), ("path", 0), ("path", 1), ("path", 2), ("ends",)] + [("meets", first, many) for first in range(8) for many in range(1, 5)]
        for one, other in cases:
            due = meeting(machine, one, other)
            wrong = [thing for thing in every if thing != due] + [None, True, 0, "", due[0], [], (), {}, list(due), (due,), due + (0,), due[:-1], due + due]
            wrong += [(word,) + due[1:] for word in ("", "Seed", due[0].upper(), None, 0, [due[0]], (due[0],), Plus(1))]
            for at in range(1, len(due)):
                for thing in [due[at] + 1, due[at] - 1, str(due[at]), None, [due[at]], (due[at],)] + ([bool(due[at])] if due[at] in (0, 1) else []):
                    wrong.append(due[:at] + (thing,) + due[at + 1:])
            for thing in wrong:
                self.same(is_meeting(machine, one, other, thing), False)
            self.same(is_meeting(machine, one, other, tuple(due)), True)

    def test_refusals_and_their_order(self):
        for machine in MACHINES:
            good = (0, (), 0, 1)
            for thing in no_stretches(machine):
                for beside in (good, None, (0, (), 0, -1)):
                    self.refused(NoRow, [thing], meeting, machine, thing, beside)
                    self.refused(NoRow, [thing], is_meeting, machine, thing, beside, ("ends",))
                self.refused(NoRow, [thing], meeting, machine, good, thing)
                self.refused(NoRow, [thing], is_meeting, machine, good, thing, None)


if __name__ == "__main__":
    unittest.main()
