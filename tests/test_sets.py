"""Point [54]: sets of one size out of so many, and their ranks."""

import itertools
import math
import random
import unittest

from helpers import Case, no_whole_numbers
from splitseed.errors import NoNumber, NoSet
from splitseed.sets import next_set, set_at, set_rank, sets_many
from splitseed.steps import Plus

NO_SIZES = [-1, 61, 10 ** 59]


def no_sets():
    """Things that are no sets out of 5, new ones each time."""
    return [
        None, True, False, 0, 3, "", "0", "01", {}, {0: 0}, Plus(0), [5], (5,), [-1], [0, 0], (1, 0), [4, 3], [0, 2, 1],
        (0, 1, 1), [True], (False,), [0, True], (False, 1), ["0"], [None], [[0]], [()], ((0, 1),), [0, 1, 5], [10 ** 59],
        [0, 1, 2, 3, 4, 5], [0, 1, 2, 3, 4, 4], (0, {}), [0, Plus(1)], [0, 1, None],
    ]


class Sets(Case):
    def test_how_many_sets(self):
        for many in range(61):
            for size in range(61):
                self.same(sets_many(many, size), math.comb(many, size))

    def test_rank_and_set_over_all_sets_of_small_sizes(self):
        for many in range(9):
            for size in range(many + 1):
                every = list(itertools.combinations(range(many), size))
                self.assertEqual(every, sorted(every))
                for rank, told in enumerate(every):
                    self.same(set_at(many, size, rank), told)
                    self.same(set_rank(many, told), rank)
                    self.same(set_rank(many, list(told)), rank)
                    behind = every[rank + 1] if rank + 1 < len(every) else None
                    self.same(next_set(many, told), behind)
                    self.same(next_set(many, list(told)), behind)

    def test_the_first_and_the_last_rank_and_one_beyond(self):
        for many in (0, 1, 2, 5, 30, 59, 60):
            for size in {0, 1, many // 2, max(0, many - 1), many} & set(range(many + 1)):
                first, last = tuple(range(size)), tuple(range(many - size, many))
                most = math.comb(many, size)
                self.same(set_at(many, size, 0), first)
                self.same(set_at(many, size, most - 1), last)
                self.same(set_rank(many, first), 0)
                self.same(set_rank(many, last), most - 1)
                self.same(next_set(many, last), None)
                for rank in (-1, most, most + 1, 10 ** 59):
                    self.refused(NoNumber, [rank], set_at, many, size, rank)

    def test_none_chosen_and_all_chosen(self):
        for many in (0, 1, 7, 60):
            self.same(sets_many(many, 0), 1)
            self.same(sets_many(many, many), 1)
            self.same(set_at(many, 0, 0), ())
            self.same(set_at(many, many, 0), tuple(range(many)))
            for told in ((), [], tuple(range(many)), list(range(many))):
                self.same(set_rank(many, told), 0)
                self.same(next_set(many, told), None)

    def test_one_more_than_there_are(self):
        for many in (0, 1, 7, 59):
            self.same(sets_many(many, many + 1), 0)
            self.same(sets_many(many, 60), 0)
            for rank in (0, 1, -1, None):
                self.refused(NoNumber, [rank], set_at, many, many + 1, rank)
            told = tuple(range(many + 1))
            self.refused(NoSet, [told], set_rank, many, told)
            self.refused(NoSet, [told], next_set, many, told)

    def test_sets_out_of_many(self):
        chance = random.Random(54)
        for turn in range(300):
            many = chance.randrange(9, 61)
            size = chance.randrange(many + 1)
            told = tuple(sorted(chance.sample(range(many), size)))
            rank = set_rank(many, told)
            self.same(set_at(many, size, rank), told)
            other = tuple(sorted(chance.sample(range(many), size)))
            self.assertEqual(rank < set_rank(many, other), told < other)
            behind = set_at(many, size, rank + 1) if rank + 1 < math.comb(many, size) else None
            self.same(next_set(many, told), behind)

    def test_a_set_out_of_more_has_another_rank(self):
        self.same(set_rank(4, (1, 2)), 3)
        self.same(set_rank(5, (1, 2)), 4)
        self.same(next_set(4, (2, 3)), None)
        self.same(next_set(5, (2, 3)), (2, 4))

    def test_what_is_no_set(self):
        for thing in no_sets():
            self.refused(NoSet, [thing], set_rank, 5, thing)
            self.refused(NoSet, [thing], next_set, 5, thing)
        for thing in ([0], (0,), [True], None):
            self.refused(NoSet, [thing], set_rank, 0, thing)
        for told in ([60], (59, 60), [0] * 61, list(range(61))):
            self.refused(NoSet, [told], set_rank, 60, told)
            self.refused(NoSet, [told], next_set, 60, told)

    def test_the_order_of_the_refusals(self):
        for thing in NO_SIZES + no_whole_numbers():
            self.refused(NoNumber, [thing], sets_many, thing, -1)
            self.refused(NoNumber, [thing], sets_many, thing, 0)
            self.refused(NoNumber, [thing], set_at, thing, 0, 0)
            self.refused(NoNumber, [thing], sets_many, 5, thing)
            self.refused(NoNumber, [thing], set_at, thing, -1, None)
            self.refused(NoNumber, [thing], set_at, 5, thing, None)
            self.refused(NoNumber, [thing], set_rank, thing, None)
            self.refused(NoNumber, [thing], next_set, thing, None)
            self.refused(NoNumber, [thing], set_rank, thing, ())
            self.refused(NoNumber, [thing], next_set, thing, [0])
        for thing in [-1, 10] + no_whole_numbers():
            self.refused(NoNumber, [thing], set_at, 5, 2, thing)

    def test_what_is_handed_in_stays(self):
        told = [0, 2, 4]
        set_rank(5, told)
        next_set(5, told)
        self.same(told, [0, 2, 4])


if __name__ == "__main__":
    unittest.main()
