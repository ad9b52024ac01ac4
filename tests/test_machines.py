"""Points [31] to [36], and what [6] tells of states."""

import itertools
import unittest

from helpers import Case, no_whole_numbers
from splitseed.chains import Back, Chain
from splitseed.errors import NoMachine, NoPath, NoPlace, NoSeed, NoState, NoStep
from splitseed.machines import Machine, machine_of, same_machine
from splitseed.steps import Cross, Fold, Lean, Plus, Rise, Times, Turn

STEPS = [Plus(11), Times(13), Back(Chain([Fold(2), Turn(3)])), Lean(5), Rise(1), Cross(0x9E3779B97F4A7C15)]
SMALL = [(1, 2, 2, 2), (0, 1, 3, 2), (0, 1, 0, 4), (2, 1, 0, 3), (3, 2, 1, 2), (0, 2, 3, 1), (4, 3, 0, 1), (1, 3, 2, 1)]
WIDE = [(32, 4, 4, 16), (32, 5, 4, 12), (18, 5, 6, 16), (32, 5, 0, 16), (0, 5, 6, 16)]


def machines():
    return [Machine(*sizes, steps) for sizes in SMALL + WIDE for steps in ([], STEPS)]


def small_machines():
    return [Machine(*sizes, steps) for sizes in SMALL for steps in ([], STEPS)]


def all_paths(machine):
    numbers = range(machine.parts())
    return [path for many in range(machine.depth + 1) for path in itertools.product(numbers, repeat=many)]


def figures(number, many):
    return format(number, "b").zfill(many) if many else ""


def spot_by_figures(machine, seed, path, place):
    digits = [number + 1 for number in path] + [0] * (machine.depth - len(path))
    text = figures(seed, machine.seed_bits)
    for digit in digits:
        text += figures(digit, machine.part_bits)
    return int(text + figures(place, machine.place_bits), 2)


class Making(Case):
    def test_fields_and_sizes(self):
        for sizes in SMALL + WIDE:
            seed_bits, part_bits, depth, place_bits = sizes
            machine = Machine(*sizes)
            found = (machine.seed_bits, machine.part_bits, machine.depth, machine.place_bits, machine.width)
            self.same(found, (*sizes, seed_bits + part_bits * depth + place_bits))
            self.same(machine.seeds(), 2 ** seed_bits)
            self.same(machine.parts(), 2 ** part_bits - 1)
            self.same(machine.length(), 2 ** place_bits)

    def test_sizes_at_their_ends(self):
        for sizes in (
            (0, 1, 0, 4), (32, 1, 0, 1), (4, 1, 0, 1), (4, 5, 0, 1), (0, 1, 6, 1), (0, 5, 6, 1), (0, 5, 0, 16),
            (32, 5, 3, 16), (18, 5, 6, 16),
        ):
            self.same(Machine(*sizes).told(), (*sizes, ()))

    def test_sizes_beyond_their_ends_and_things_that_are_none(self):
        beyond = [[-1, 33], [0, 6], [-1, 7], [0, 17]]
        for at in range(4):
            for thing in beyond[at] + [10 ** 59, -(10 ** 59)] + no_whole_numbers():
                sizes = [8, 2, 2, 8]
                sizes[at] = thing
                self.refused(NoMachine, [thing], Machine, *sizes)

    def test_the_first_of_the_sizes_is_told(self):
        for at in range(4):
            sizes = [8, 2, 2, 8]
            sizes[at:] = [[place] for place in range(at, 4)]
            self.refused(NoMachine, [sizes[at]], Machine, *sizes)
            self.refused(NoMachine, [sizes[at]], Machine, *sizes, "no steps")

    def test_widths(self):
        for sizes, width in (((0, 1, 0, 3), 3), ((0, 1, 0, 1), 1), ((2, 5, 0, 1), 3), ((19, 5, 6, 16), 65)):
            self.refused(NoMachine, [width], Machine, *sizes)
            self.refused(NoMachine, [width], Machine, *sizes, [None])
        self.refused(NoMachine, [78], Machine, 32, 5, 6, 16)
        self.same(Machine(0, 1, 0, 4).width, 4)
        self.same(Machine(0, 1, 1, 3).width, 4)
        self.same(Machine(18, 5, 6, 16).width, 64)

    def test_steps_left_out_none_a_list_a_tuple(self):
        for machine in (Machine(4, 2, 2, 4), Machine(4, 2, 2, 4, None), Machine(4, 2, 2, 4, []), Machine(4, 2, 2, 4, ())):
            self.same(machine.steps(), [])
            self.same(machine.onward(77), 77)
        for steps in (STEPS, tuple(STEPS), [Plus(1)] * 12):
            machine = Machine(4, 2, 2, 4, steps)
            self.assertEqual([step.told() for step in machine.steps()], [step.told() for step in steps])

    def test_the_list_changed_behind_changes_nothing(self):
        steps = [Plus(1)]
        machine = Machine(4, 2, 2, 4, steps)
        steps.append(Plus(2))
        machine.steps().append(Plus(4))
        machine.steps().clear()
        self.same(machine.onward(0), 1)
        self.same(machine.told(), (4, 2, 2, 4, (("plus", 1),)))
        self.assertIsInstance(machine.steps(), list)
        self.assertEqual(len(machine.steps()), 1)

    def test_no_steps(self):
        for thing in (False, True, 0, 5, "", "plus 5", {}, Plus(1), [Plus(1)] * 13, (None,) * 13):
            self.refused(NoStep, [thing], Machine, 4, 2, 2, 4, thing)
        four = Back(Back(Back(Plus(1))))
        for thing in (None, True, 5, "plus 5", ("plus", 5), [Plus(1)], (), four, Chain([Back(Back(Plus(1)))])):
            self.refused(NoStep, [thing], Machine, 4, 2, 2, 4, [Plus(1), thing, None])
            self.refused(NoStep, [thing], Machine, 4, 2, 2, 4, (thing,))
        three = Back(Back(Plus(1)))
        self.same(Machine(4, 2, 2, 4, [three]).told()[4], (three.told(),))


class Paths(Case):
    def test_paths(self):
        for machine in small_machines():
            for path in all_paths(machine):
                self.same(machine.is_path(path), True)

    def test_lists_truths_and_numbers_beyond(self):
        machine = Machine(4, 2, 3, 4)
        for path in ((), (0,), (2,), (0, 1, 2), (2, 2, 2), (0, 0, 0)):
            self.same(machine.is_path(path), True)
        for thing in (
            [], [0], (3,), (-1,), (0, 3), (0, 0, 3), (0, 0, 0, 0), (True,), (0, False), (None,), ("0",), ((0,),), ([],),
            (0, 1, True), (10 ** 59,), (4,),
        ):
            self.same(machine.is_path(thing), False)
        for thing in no_whole_numbers() + [0, 5]:
            self.same(machine.is_path(thing), thing == ())

    def test_a_machine_without_depth(self):
        machine = Machine(4, 2, 0, 4)
        self.same(machine.is_path(()), True)
        self.same(machine.is_path((0,)), False)


class Spots(Case):
    def test_examples(self):
        machine = Machine(3, 2, 3, 4)
        self.same(machine.spot(5, (), 9), 0b101_00_00_00_1001)
        self.same(machine.spot(5, (0,), 9), 0b101_01_00_00_1001)
        self.same(machine.spot(7, (2, 0, 1), 15), 0b111_11_01_10_1111)
        self.same(machine.read_spot(0b111_11_01_10_1111), (7, (3, 1, 2), 15))
        self.same(machine.read_spot(0b101_00_01_00_1001), (5, (0, 1, 0), 9))

    def test_spots_by_figures(self):
        for machine in machines():
            seeds = sorted({0, 1 % machine.seeds(), machine.seeds() - 1})
            last = machine.parts() - 1
            paths = [(last,) * many for many in range(machine.depth + 1)] + [(0,) * machine.depth]
            for seed, path, place in itertools.product(seeds, paths, (0, 1, machine.length() - 1)):
                spot = machine.spot(seed, path, place)
                self.same(spot, spot_by_figures(machine, seed, path, place))
                digits = tuple(number + 1 for number in path) + (0,) * (machine.depth - len(path))
                self.same(machine.read_spot(spot), (seed, digits, place))
                self.same(machine.state(seed, path, place), machine.onward(spot))
                self.same(machine.read_state(machine.state(seed, path, place)), (seed, path, place))

    def test_every_number_of_small_machines(self):
        for machine in small_machines():
            for number in range(2 ** machine.width):
                seed, digits, place = machine.read_spot(number)
                self.assertEqual(len(digits), machine.depth)
                text = figures(seed, machine.seed_bits) + "".join(figures(one, machine.part_bits) for one in digits)
                self.same(int(text + figures(place, machine.place_bits), 2), number)
                self.same(machine.backward(machine.onward(number)), number)
                self.same(machine.onward(machine.backward(number)), number)

    def test_onward_by_all_steps_in_their_order(self):
        for sizes in SMALL + WIDE:
            machine = Machine(*sizes, STEPS)
            for number in (0, 1, 2 ** machine.width - 1, 2 ** machine.width // 3):
                led = number
                for step in STEPS:
                    led = step.onward(led, machine.width)
                self.same(machine.onward(number), led)
                self.same(machine.backward(led), number)

    def test_states_are_unlike_and_are_read_back(self):
        for machine in small_machines():
            found = {}
            for seed, path in itertools.product(range(machine.seeds()), all_paths(machine)):
                for place in range(machine.length()):
                    state = machine.state(seed, path, place)
                    self.assertNotIn(state, found)
                    found[state] = (seed, path, place)
            for number in range(2 ** machine.width):
                self.same(machine.read_state(number), found.get(number))
                if number in found and found[number][2] + 1 < machine.length():
                    seed, path, place = found[number]
                    self.same(machine.next_state(number), machine.state(seed, path, place + 1))
                else:
                    self.same(machine.next_state(number), None)

    def test_digits_that_are_no_paths(self):
        machine = Machine(0, 2, 3, 4)
        self.same(machine.read_state(0b00_01_00_0000), None)
        self.same(machine.read_state(0b01_00_11_0000), None)
        self.same(machine.next_state(0b01_00_11_0000), None)
        self.same(machine.read_state(0b01_11_00_0001), (0, (0, 2), 1))
        self.same(machine.next_state(0b01_11_00_1110), 0b01_11_00_1111)
        self.same(machine.next_state(0b01_11_00_1111), None)

    def test_refused_seeds_paths_and_places_in_this_order(self):
        machine = Machine(3, 2, 2, 4, STEPS)
        for call in (machine.spot, machine.state):
            for thing in [-1, 8, 10 ** 59] + no_whole_numbers():
                self.refused(NoSeed, [thing], call, thing, (), 0)
                self.refused(NoSeed, [thing], call, thing, [], -1)
            no_path = [[], [0], (3,), (-1,), (0, 0, 0), (True,), (0, None), 0, None, "", {}]
            for thing in no_path:
                self.refused(NoPath, [thing], call, 0, thing, 0)
                self.refused(NoPath, [thing], call, 7, thing, 16)
            for thing in [-1, 16, 10 ** 59] + no_whole_numbers():
                self.refused(NoPlace, [thing], call, 0, (0, 2), thing)
        lone = Machine(0, 1, 0, 4)
        self.same(lone.spot(0, (), 0), 0)
        self.refused(NoSeed, [1], lone.spot, 1, (), 0)

    def test_refused_states_of_each_of_the_five(self):
        for machine in (Machine(3, 2, 2, 4, STEPS), Machine(0, 1, 0, 4), Machine(18, 5, 6, 16)):
            for name in ("read_spot", "onward", "backward", "read_state", "next_state"):
                call = getattr(machine, name)
                for thing in [-1, 2 ** machine.width, 10 ** 59] + no_whole_numbers():
                    self.refused(NoState, [thing], call, thing)
                call(0)
                call(2 ** machine.width - 1)

    def test_methods_stand_in_the_class_itself(self):
        for name in (
            "steps", "seeds", "parts", "length", "is_path", "spot", "state", "read_spot", "onward", "backward",
            "read_state", "next_state", "told",
        ):
            self.assertIn(name, vars(Machine))


class Telling(Case):
    def test_told_and_made_again(self):
        for machine in machines():
            told = machine.told()
            steps = tuple(step.told() for step in machine.steps())
            self.same(told, (machine.seed_bits, machine.part_bits, machine.depth, machine.place_bits, steps))
            again = machine_of(told)
            self.same(again.told(), told)
            self.same(again.width, machine.width)
            self.same(same_machine(machine, again), True)
            self.same(again.onward(5), machine.onward(5))

    def test_same_machine(self):
        one = Machine(4, 2, 2, 4, [Plus(1), Times(3)])
        self.same(same_machine(one, one), True)
        self.same(same_machine(one, Machine(4, 2, 2, 4, (Plus(1), Times(3)))), True)
        for other in (
            Machine(5, 2, 2, 4, [Plus(1), Times(3)]), Machine(4, 1, 2, 4, [Plus(1), Times(3)]),
            Machine(4, 2, 1, 4, [Plus(1), Times(3)]), Machine(4, 2, 2, 5, [Plus(1), Times(3)]),
            Machine(4, 2, 2, 4, [Times(3), Plus(1)]), Machine(4, 2, 2, 4, [Plus(1)]), Machine(4, 2, 2, 4),
            Machine(4, 2, 2, 4, [Chain([Plus(1), Times(3)])]), Machine(4, 2, 2, 4, [Plus(2), Times(3)]),
        ):
            self.same(same_machine(one, other), False)
            self.same(same_machine(other, one), False)

    def test_each_part_spoilt(self):
        plus = ("plus", 5)
        whole = (8, 2, 2, 8, (plus, ("times", 3)))
        self.same(machine_of(whole).told(), whole)
        beyond = [[-1, 33], [0, 6], [-1, 7], [0, 17]]
        for at in range(4):
            for thing in beyond[at] + no_whole_numbers():
                spoilt = whole[:at] + (thing,) + whole[at + 1:]
                self.refused(NoMachine, [spoilt], machine_of, spoilt)
        four = Back(Back(Back(Plus(1)))).told()
        for steps in (
            None, [], [plus], plus, 0, True, "", {}, (plus,) * 13, (["plus", 5],), (("plus", True),), (("plus", -1),),
            (plus, None), (plus, ("times", 4)), (Plus(5),), (plus, four), (("chain", [plus]),), Plus(5), (None,) * 300,
        ):
            spoilt = whole[:4] + (steps,)
            self.refused(NoMachine, [spoilt], machine_of, spoilt)
        for sizes in ((0, 1, 0, 3), (19, 5, 6, 16)):
            self.refused(NoMachine, [wrong := (*sizes, ())], machine_of, wrong)

    def test_parts_left_out_and_put_in_and_lists(self):
        whole = (8, 2, 2, 8, ())
        for thing in (whole[:4], whole[1:], whole + ((),), whole + (None,), list(whole), (), (whole,), (8, 2, 2, (), 8)):
            self.refused(NoMachine, [thing], machine_of, thing)

    def test_other_things(self):
        for thing in no_whole_numbers() + [5, Machine(8, 2, 2, 8)]:
            self.refused(NoMachine, [thing], machine_of, thing)

    def test_twelve_steps_of_three_levels(self):
        told = (8, 2, 2, 8, (Back(Back(Plus(1))).told(),) * 12)
        self.same(machine_of(told).told(), told)


if __name__ == "__main__":
    unittest.main()
