"""Points [85] and [86]: exchanges gone through, and how far rests by a bound lean."""

import itertools
import unittest

from helpers import Case, no_whole_numbers
from splitseed.errors import NoNumber, NoWidth, TooWide
from splitseed.leaning import fair, leaning, most_leaning, swaps_tally
from splitseed.machines import Machine
from splitseed.orders import order_rank
from splitseed.rounds import tally
from splitseed.shapes import Below
from splitseed.steps import Fold, Plus, Times


def no_bounds(greatest):
    return [0, -1, greatest + 1, 10 ** 59, -10 ** 59] + no_whole_numbers()


def no_widths(widest):
    return [3, 0, -4, widest + 1, 10 ** 59] + no_whole_numbers()


class Swaps(Case):
    def test_each_order_comes_once_by_rank(self):
        for many in range(7):
            found = swaps_tally(many)
            self.same(found, [(order, 1) for order in itertools.permutations(range(many))])
            self.same([order_rank(order) for order, times in found], list(range(len(found))))

    def test_some_tallies(self):
        self.same(swaps_tally(0), [((), 1)])
        self.same(swaps_tally(1), [((0,), 1)])
        self.same(swaps_tally(2), [((0, 1), 1), ((1, 0), 1)])
        self.same(len(swaps_tally(6)), 720)

    def test_told_lists_are_new_ones(self):
        for many in range(4):
            swaps_tally(many).clear()
            self.same(len(swaps_tally(many)), (1, 1, 2, 6)[many])

    def test_refusals(self):
        for thing in [-1, 7, 10 ** 59, -10 ** 59] + no_whole_numbers():
            self.refused(NoNumber, [thing], swaps_tally, thing)


class Leanings(Case):
    def counted(self, bound, width):
        rests = [state % bound for state in range(2 ** width)]
        return [rests.count(rest) for rest in range(bound)]

    def test_all_small_bounds(self):
        for width in (4, 5, 7):
            for bound in list(range(1, 2 ** width + 9)):
                wanted = self.counted(bound, width)
                self.same(leaning(bound, width), wanted)
                self.same(most_leaning(bound, width), max(wanted) - min(wanted))

    def test_the_ends_of_bounds_and_widths(self):
        self.same(leaning(1, 4), [16])
        self.same(leaning(1, 12), [4096])
        self.same(leaning(4096, 12), [1] * 4096)
        self.same(leaning(4095, 12), [2] + [1] * 4094)
        self.same(leaning(4096, 4), [1] * 16 + [0] * 4080)
        self.same(leaning(6, 4), [3, 3, 3, 3, 2, 2])
        self.same(leaning(20, 4), [1] * 16 + [0] * 4)
        for bound, width, wanted in ((1, 4, 0), (4096, 12, 0), (8, 5, 0), (6, 4, 1), (17, 4, 1), (4096, 11, 1), (3, 12, 1)):
            self.same(most_leaning(bound, width), wanted)

    def test_a_bound_that_goes_into_all_states_does_not_lean(self):
        for width in range(4, 13):
            for bound in (1, 2, 3, 5, 16, 24, 1000, 2048, 4096):
                goes_in = 2 ** width % bound == 0
                self.same(most_leaning(bound, width), 0 if goes_in else 1)
                self.same(sum(leaning(bound, width)), 2 ** width)

    def test_told_lists_are_new_ones(self):
        leaning(6, 4).clear()
        self.same(leaning(6, 4), [3, 3, 3, 3, 2, 2])

    def test_refusals_and_their_order(self):
        for call in (leaning, most_leaning):
            for thing in no_bounds(4096):
                self.refused(NoNumber, [thing], call, thing, 4)
                for width in no_widths(12):
                    self.refused(NoNumber, [thing], call, thing, width)
            for width in no_widths(12):
                self.refused(NoWidth, [width], call, 4096, width)
                self.refused(NoWidth, [width], call, 1, width)


class Fairness(Case):
    def test_small_widths_by_their_values(self):
        for width in (4, 5, 6):
            for bound in range(1, 2 ** width + 1):
                values = [Below(bound).of(value, width) for value in range(2 ** width)]
                times = {values.count(number) for number in range(bound)}
                self.same([fair(bound, width)], [(each, values.count(None)) for each in times])

    def test_it_agrees_with_a_tally(self):
        machine = Machine(2, 1, 1, 3, [Times(7), Fold(2), Plus(5)])
        for bound in (1, 3, 8, 33, 63, 64):
            outcomes, thrown = tally(machine, Below(bound))
            self.same([(times, thrown) for number, times in outcomes], [fair(bound, 6)] * bound)

    def test_great_bounds_and_widths(self):
        self.same(fair(1, 64), (2 ** 64, 0))
        self.same(fair(2 ** 64, 64), (1, 0))
        self.same(fair(2 ** 64 - 1, 64), (1, 1))
        self.same(fair(2 ** 63 + 1, 64), (1, 2 ** 63 - 1))
        self.same(fair(10, 64), (1844674407370955161, 6))
        self.same(fair(16, 4), (1, 0))
        self.same(fair(9, 4), (1, 7))
        self.same(fair(6, 12), (682, 4))

    def test_refusals_and_their_order(self):
        for thing in no_bounds(2 ** 64):
            self.refused(NoNumber, [thing], fair, thing, 64)
            for width in no_widths(64):
                self.refused(NoNumber, [thing], fair, thing, width)
        for width in no_widths(64):
            self.refused(NoWidth, [width], fair, 2 ** 64, width)
            self.refused(NoWidth, [width], fair, 1, width)
        for width in (4, 5, 12, 33, 63):
            self.refused(TooWide, [2 ** width + 1], fair, 2 ** width + 1, width)
            self.refused(TooWide, [2 ** 64], fair, 2 ** 64, width)
            self.same(fair(2 ** width, width), (1, 0))


if __name__ == "__main__":
    unittest.main()
