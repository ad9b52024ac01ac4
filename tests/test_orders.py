"""Points [51] to [53]: orders, rows laid by them, and orders that come of numbers."""

import itertools
import math
import random
import unittest

from helpers import Case, no_whole_numbers
from splitseed.errors import NoNumber, NoOrder
from splitseed.orders import (
    by_numbers, is_order, laid, next_order, numbers_by, order_at, order_rank, orders_many, turned_order,
)
from splitseed.steps import Plus


def no_orders():
    """Things that are no orders, new ones each time."""
    return [
        None, True, False, 0, 7, "", "0", "01", {}, {0: 0}, Plus(0), [1], (1,), [0, 0], (0, 0), [0, 2], (1, 2), [-1, 0],
        [0, True], (True, 0), [False], (False,), (False, 1), ["0"], [None], [[0]], [()], ((0,), (1,)), [0, [1]], [0, 1, 1],
        (2, 0, 0), [0, 1, 2, 4], [10 ** 59], list(range(61)), tuple(range(61)), [0] * 60, list(range(59)) + [58],
        list(range(59)) + [60], {0: 0, 1: 1}, [0, {}], [0, Plus(1)],
    ]


def least_and_greatest(many):
    return tuple(range(many)), tuple(range(many))[::-1]


class Ranks(Case):
    def test_what_is_an_order(self):
        for many in range(6):
            for numbers in itertools.product(range(-1, many + 1), repeat=many):
                wanted = sorted(numbers) == list(range(many))
                self.same(is_order(numbers), wanted)
                self.same(is_order(list(numbers)), wanted)
        for many in (1, 2, 20, 21, 59, 60):
            for order in least_and_greatest(many):
                self.same(is_order(order), True)
                self.same(is_order(list(order)), True)
        for thing in no_orders():
            self.same(is_order(thing), False)

    def test_how_many_orders(self):
        for many in range(21):
            self.same(orders_many(many), math.factorial(many))
        for thing in [-1, 21, 60, 10 ** 59] + no_whole_numbers():
            self.refused(NoNumber, [thing], orders_many, thing)

    def test_rank_and_order_over_all_orders_of_few_things(self):
        for many in range(7):
            every = list(itertools.permutations(range(many)))
            for rank, order in enumerate(every):
                self.same(order_at(many, rank), order)
                self.same(order_rank(order), rank)
                self.same(order_rank(list(order)), rank)
                behind = every[rank + 1] if rank + 1 < len(every) else None
                self.same(next_order(order), behind)
                self.same(next_order(list(order)), behind)

    def test_the_first_and_the_last_rank_and_one_beyond(self):
        for many in range(21):
            first, last = least_and_greatest(many)
            most = math.factorial(many)
            self.same(order_at(many, 0), first)
            self.same(order_at(many, most - 1), last)
            self.same(order_rank(first), 0)
            self.same(order_rank(last), most - 1)
            for rank in (-1, most, most + 1, 10 ** 59):
                self.refused(NoNumber, [rank], order_at, many, rank)

    def test_ranks_of_many_things(self):
        chance = random.Random(51)
        for turn in range(200):
            many = chance.randrange(7, 21)
            rank = chance.randrange(math.factorial(many))
            order = order_at(many, rank)
            self.assertEqual(sorted(order), list(range(many)))
            self.same(order_rank(order), rank)
            other = chance.sample(range(many), many)
            self.same(order_at(many, order_rank(other)), tuple(other))
            self.assertEqual(order_rank(order) < order_rank(other), order < tuple(other))
            if rank + 1 < math.factorial(many):
                self.same(next_order(order), order_at(many, rank + 1))

    def test_the_order_of_the_refusals(self):
        for thing in [-1, 21, 10 ** 59] + no_whole_numbers():
            for rank in (0, -1, None, [0]):
                self.refused(NoNumber, [thing], order_at, thing, rank)
        for thing in no_whole_numbers() + [-1, 24]:
            self.refused(NoNumber, [thing], order_at, 4, thing)

    def test_no_orders_are_refused(self):
        for thing in no_orders():
            self.refused(NoOrder, [thing], order_rank, thing)
            self.refused(NoOrder, [thing], next_order, thing)
            self.refused(NoOrder, [thing], turned_order, thing)
            self.refused(NoOrder, [thing], numbers_by, thing)

    def test_ranks_are_told_of_at_most_twenty_things(self):
        for many in (21, 22, 59, 60):
            for order in least_and_greatest(many) + (list(range(many)),):
                self.refused(NoOrder, [order], order_rank, order)

    def test_next_orders_of_many_things(self):
        for many in (21, 59, 60):
            first, last = least_and_greatest(many)
            self.same(next_order(first), first[:-2] + (many - 1, many - 2))
            self.same(next_order(last), None)
            self.same(next_order(list(last)), None)
            self.same(next_order((0,) + tuple(range(many - 1, 0, -1))), (1, 0) + tuple(range(2, many)))
        chance = random.Random(52)
        for turn in range(100):
            head = tuple(chance.sample(range(6, 60), 54))
            tail = chance.sample(range(6), 6)
            every = list(itertools.permutations(range(6)))
            at = every.index(tuple(tail))
            if at + 1 < len(every):
                self.same(next_order(head + tuple(tail)), head + every[at + 1])

    def test_what_is_handed_in_stays(self):
        order = [2, 0, 1]
        for call in (is_order, order_rank, next_order, turned_order, numbers_by):
            call(order)
        laid(order, order)
        by_numbers(order)
        self.same(order, [2, 0, 1])


class Laying(Case):
    def test_a_row_is_laid(self):
        self.same(laid(["a", "b", "c"], (2, 0, 1)), ["c", "a", "b"])
        self.same(laid(("a", "b", "c"), [2, 0, 1]), ["c", "a", "b"])
        self.same(laid([], ()), [])
        self.same(laid((), []), [])
        self.same(laid([None], [0]), [None])

    def test_the_very_things_of_the_row_are_told(self):
        things = [[1], {"a": 1}, Plus(1), None, True, (2,)]
        row = laid(things, (5, 4, 3, 2, 1, 0))
        self.assertTrue(all(one is other for one, other in zip(row, things[::-1])))
        row.append(7)
        self.assertEqual(len(things), 6)
        self.assertIsNot(laid(things, (0, 1, 2, 3, 4, 5)), things)

    def test_laid_and_laid_back(self):
        for many in range(6):
            row = [chr(97 + at) for at in range(many)]
            for order in itertools.permutations(range(many)):
                other = turned_order(order)
                self.assertIs(type(other), tuple)
                self.same(laid(laid(row, order), other), row)
                self.same(laid(laid(tuple(row), list(other)), list(order)), row)
                self.same(turned_order(list(order)), other)
                for at in range(many):
                    self.assertIs(laid(row, order)[at], row[order[at]])
        chance = random.Random(53)
        for many in (20, 21, 60):
            order = tuple(chance.sample(range(many), many))
            row = list(range(100, 100 + many))
            self.same(laid(laid(row, order), turned_order(order)), row)
            self.same(laid(laid(row, turned_order(order)), order), row)

    def test_what_no_row_is_laid_by(self):
        for thing in no_orders():
            for row in ([], [5], (5, 6), [0] * 60):
                self.refused(NoOrder, [thing], laid, row, thing)
        for row in ([], [1], [1, 2, 3], (1, 2, 3), [0] * 60):
            order = (1, 0)
            self.refused(NoOrder, [order], laid, row, order)
        nothing = ()
        self.refused(NoOrder, [nothing], laid, [1], nothing)


class Exchanges(Case):
    def by_hand(self, numbers):
        things = list(range(len(numbers) + 1))
        for k, number in enumerate(numbers):
            last = len(things) - 1 - k
            kept = things[last]
            things[last] = things[number]
            things[number] = kept
        return tuple(things)

    def test_orders_of_numbers(self):
        self.same(by_numbers([]), (0,))
        self.same(by_numbers(()), (0,))
        self.same(by_numbers([0]), (1, 0))
        self.same(by_numbers([1]), (0, 1))
        self.same(by_numbers([0, 0]), (1, 2, 0))
        self.same(by_numbers((1, 0)), (2, 0, 1))
        self.same(numbers_by((0,)), [])
        self.same(numbers_by([1, 2, 0]), [0, 0])

    def test_each_order_comes_of_just_one_row_of_numbers(self):
        for many in range(1, 7):
            found = []
            for numbers in itertools.product(*[range(many - k) for k in range(many - 1)]):
                order = by_numbers(numbers)
                self.same(order, self.by_hand(numbers))
                self.same(by_numbers(list(numbers)), order)
                self.same(numbers_by(order), list(numbers))
                self.same(numbers_by(list(order)), list(numbers))
                found.append(order)
            self.assertEqual(sorted(found), list(itertools.permutations(range(many))))

    def test_as_many_as_there_may_be(self):
        chance = random.Random(54)
        for turn in range(20):
            numbers = [chance.choice([0, 59 - k, chance.randrange(60 - k)]) for k in range(59)]
            order = by_numbers(numbers)
            self.same(order, self.by_hand(numbers))
            self.same(numbers_by(order), numbers)
        self.same(by_numbers([59 - k for k in range(59)]), tuple(range(60)))
        for thing in ([0] * 60, (0,) * 60, [0] * 61, [59 - k for k in range(59)] + [0], [None] * 60):
            self.refused(NoNumber, [thing], by_numbers, thing)

    def test_things_that_are_no_numbers(self):
        for thing in [None, True, False, 0, 5, "", "0", {}, {0: 0}, Plus(0)]:
            self.refused(NoNumber, [thing], by_numbers, thing)
        for many in (1, 2, 5, 59):
            for k in range(many):
                for wrong in [-1, many + 1 - k, 10 ** 59] + no_whole_numbers():
                    numbers = [0] * many
                    numbers[k] = wrong
                    self.refused(NoNumber, [wrong], by_numbers, numbers)
                    self.refused(NoNumber, [wrong], by_numbers, tuple(numbers))
        # The first of two wrong ones is told.
        self.refused(NoNumber, [7], by_numbers, [0, 7, None])
        self.refused(NoNumber, [None], by_numbers, [0, None, 7])

    def test_of_no_things_no_numbers_are_told(self):
        for thing in ([], ()):
            self.refused(NoOrder, [thing], numbers_by, thing)


if __name__ == "__main__":
    unittest.main()
