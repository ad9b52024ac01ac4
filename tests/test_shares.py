"""Point [55]: shares and their numbers."""

import random
import unittest

from helpers import Case, no_whole_numbers
from splitseed.errors import NoNumber, NoShares
from splitseed.shares import first_of, number_of, rest_in, share_at, shares_many
from splitseed.steps import Plus

MILLION = 1000000


def no_shares():
    """Things that are no shares, new ones each time."""
    return [
        None, True, False, 0, 3, "", "3 1 2", {}, {0: 3}, Plus(0), [], (), [0], (0,), [0, 0, 0], [0] * 60, [-1], [3, -1],
        [MILLION + 1], (3, MILLION + 1), [1] * 61, (1,) * 61, [0] * 60 + [1], [True], [3, True], (False, 1), ["3"], [3, None],
        [[3]], [3, [1]], ((3, 1),), [3, ()], [3, {}], [3, Plus(1)], [10 ** 59], [1, 2, ""],
    ]


def by_hand(shares):
    """For each number, its share and its rest, one behind the other."""
    return [(at, rest) for at, share in enumerate(shares) for rest in range(share)]


class Shares(Case):
    def test_every_number_of_some_shares(self):
        for shares in ([3, 1, 2], (3, 1, 2), [1], (7,), [0, 2], [2, 0], (0, 3, 0, 0, 4, 0), [1] * 60, [0] * 59 + [2], [0, 1, 0]):
            every = by_hand(shares)
            self.same(shares_many(shares), len(every))
            for number, (at, rest) in enumerate(every):
                self.same(share_at(shares, number), at)
                self.same(rest_in(shares, number), rest)
                self.same(number_of(shares, at, rest), number)
            for at, share in enumerate(shares):
                self.same(first_of(shares, at), sum(shares[:at]))
                for rest in (-1, share, share + 1):
                    self.refused(NoNumber, [rest], number_of, shares, at, rest)
            for number in (-1, len(every), 10 ** 59):
                self.refused(NoNumber, [number], share_at, shares, number)
                self.refused(NoNumber, [number], rest_in, shares, number)
            for at in (-1, len(shares), 10 ** 59):
                self.refused(NoNumber, [at], first_of, shares, at)
                self.refused(NoNumber, [at], number_of, shares, at, 0)

    def test_the_greatest_shares(self):
        shares = [MILLION] * 60
        self.same(shares_many(shares), 60 * MILLION)
        for at in range(60):
            self.same(first_of(shares, at), at * MILLION)
            for rest in (0, 1, MILLION - 1):
                number = at * MILLION + rest
                self.same(share_at(shares, number), at)
                self.same(rest_in(shares, number), rest)
                self.same(number_of(shares, at, rest), number)
            self.refused(NoNumber, [MILLION], number_of, shares, at, MILLION)
        self.refused(NoNumber, [60 * MILLION], share_at, shares, 60 * MILLION)
        self.refused(NoNumber, [60 * MILLION], rest_in, shares, 60 * MILLION)

    def test_a_share_of_0(self):
        self.same(first_of([0, 5, 0, 3], 0), 0)
        self.same(first_of([0, 5, 0, 3], 2), 5)
        self.same(share_at([0, 5, 0, 3], 0), 1)
        self.same(share_at([0, 5, 0, 3], 4), 1)
        self.same(share_at([0, 5, 0, 3], 5), 3)
        self.same(rest_in([0, 5, 0, 3], 5), 0)
        self.refused(NoNumber, [0], number_of, [0, 5, 0, 3], 2, 0)

    def test_some_shares(self):
        chance = random.Random(55)
        for turn in range(100):
            shares = [chance.choice([0, 1, chance.randrange(MILLION + 1)]) for at in range(chance.randrange(1, 61))]
            if not any(shares):
                shares[-1] = MILLION
            for number in [0, sum(shares) - 1] + [chance.randrange(sum(shares)) for many in range(10)]:
                at, rest = share_at(shares, number), rest_in(shares, number)
                self.assertTrue(0 <= rest < shares[at])
                self.same(first_of(shares, at) + rest, number)
                self.same(number_of(tuple(shares), at, rest), number)

    def test_what_is_no_shares_is_refused_ahead_of_all_else(self):
        for thing in no_shares():
            self.refused(NoShares, [thing], shares_many, thing)
            for number in (0, -1, None, [0]):
                self.refused(NoShares, [thing], share_at, thing, number)
                self.refused(NoShares, [thing], rest_in, thing, number)
                self.refused(NoShares, [thing], first_of, thing, number)
                self.refused(NoShares, [thing], number_of, thing, number, None)

    def test_things_that_are_no_numbers(self):
        for thing in no_whole_numbers():
            self.refused(NoNumber, [thing], share_at, [3, 1, 2], thing)
            self.refused(NoNumber, [thing], rest_in, [3, 1, 2], thing)
            self.refused(NoNumber, [thing], first_of, [3, 1, 2], thing)
            self.refused(NoNumber, [thing], number_of, [3, 1, 2], thing, None)
            self.refused(NoNumber, [thing], number_of, [3, 1, 2], 1, thing)
        self.refused(NoNumber, [3], number_of, [3, 1, 2], 3, 7)

    def test_what_is_handed_in_stays(self):
        shares = [3, 0, 2]
        shares_many(shares)
        share_at(shares, 4)
        rest_in(shares, 4)
        first_of(shares, 2)
        number_of(shares, 2, 1)
        self.same(shares, [3, 0, 2])


if __name__ == "__main__":
    unittest.main()
