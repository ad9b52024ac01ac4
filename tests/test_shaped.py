"""Points [71], [72], [74] and [75]: outcomes taken by hands, rows shuffled and picked from."""

import itertools
import random
import unittest

from helpers import Case, alike, no_whole_numbers
from splitseed.chains import Back, Chain
from splitseed.errors import NoHand, NoNumber, NoRow, NoShape, Spent, TooWide
from splitseed.hands import Hand, first_hand, same_hand
from splitseed.machines import Machine
from splitseed.papers import is_paper
from splitseed.shaped import picked, shuffled, taken, taker
from splitseed.shapes import Below, Orders, Pair, Rows, Sets, Shares
from splitseed.steps import Cross, Fold, Lean, Plus, Times, Turn

STEPS = [Times(77), Fold(3), Plus(11), Back(Chain([Fold(2), Turn(3)])), Lean(5), Cross(45), Times(13)]

# At the width 7 the last ones throw nearly half of all values, and the last but one none.
SHAPES = [
    Below(1), Below(6), Shares([3, 0, 2]), Orders(3), Sets(5, 2), Pair(Below(3), Orders(3)), Rows(Below(2), 3),
    Rows(Shares([1, 2]), 3), Below(100), Below(128), Below(65), Pair(Below(5), Below(13)),
]


def machine():
    """Four seeds, parts up to three, depth 1, eight places: the width 7."""
    return Machine(2, 2, 1, 3, STEPS)


def long_machine():
    """Sixteen seeds, depth 2, 256 places: the width 16."""
    return Machine(4, 2, 2, 8, STEPS)


def narrow_machine():
    """The width 4."""
    return Machine(1, 1, 0, 3, [Times(5), Fold(2)])


def hands(own):
    """All first hands and all parts of one splitting, at all their places, the one behind the last too."""
    for seed in range(own.seeds()):
        first = first_hand(own, seed)
        for hand in first.parted(own.parts())[0] + [first]:
            for place in range(own.length() + 1):
                yield hand.jumped(place)


def no_hands():
    """Things that are no hands, new ones each time."""
    own = machine()
    return [None, True, 5, "", "hand 5 0 0", [], [first_hand(own, 0)], (), first_hand(own, 0).told(), {}, own, Plus(1), Below(2)]


def no_shapes():
    """Things that are no shapes, new ones each time."""
    return [None, True, 6, "below 6", [], [Below(6)], (), ("below", 6), {}, machine(), Plus(1), first_hand(machine(), 0)]


def by_hand(hand, shape):
    """What a taking should tell, and how many draws it takes; None where the hand hasn't enough."""
    own = hand.machine
    per = 2 ** own.width // shape.numbers()
    numbers = []
    for place in range(hand.place, own.length()):
        numbers.append(own.state(hand.seed, hand.path, place))
        if numbers[-1] // per < shape.numbers():
            return shape.outcome(numbers[-1] // per), (hand.seed, hand.path, hand.place, tuple(numbers))
    return None


def row_by_hand(hand, row):
    """What a shuffling should tell but for its hand; None where the hand hasn't enough draws."""
    row, papers, now = list(row), [], hand
    for last in range(len(row) - 1, 0, -1):
        found = by_hand(now, Below(last + 1))
        if found is None:
            return None
        at, paper = found
        papers.append(paper)
        now = now.jumped(len(paper[3]))
        row[last], row[at] = row[at], row[last]
    return row, papers, now.place


class Taking(Case):
    def test_every_hand_of_a_small_machine(self):
        seen = {"thrown": 0, "last": 0, "spent": 0}
        for hand in hands(machine()):
            for shape in SHAPES:
                before = hand.told()
                wanted = by_hand(hand, shape)
                if wanted is None:
                    seen["spent"] += hand.left_over() > 0
                    self.refused(Spent, [hand.path, hand.place], taken, hand, shape)
                    continue
                found = taken(hand, shape)
                self.assertIs(type(found), tuple)
                outcome, behind, paper = found
                self.same((outcome, paper), wanted)
                self.assertIsInstance(behind, Hand)
                self.assertTrue(same_hand(behind, hand.jumped(len(paper[3]))))
                self.assertTrue(is_paper(hand.machine, shape, paper, outcome))
                self.same(hand.told(), before)
                seen["thrown"] += len(paper[3]) > 1
                seen["last"] += behind.left_over() == 0
        self.assertTrue(all(many > 20 for many in seen.values()), seen)

    def test_it_hangs_on_seed_path_and_place_alone(self):
        own = machine()
        hand = first_hand(own, 3).jumped(2)
        parts, behind = hand.parted(2)
        for shape in SHAPES:
            self.same(taken(behind, shape)[::2], taken(hand, shape)[::2])
            self.same(taken(behind, shape)[1].given, 2)
            self.same(taken(parts[1], shape)[2][1], (1,))
            self.same(taken(parts[1], shape)[1].stubs, parts[1].stubs)

    def test_takings_one_behind_another(self):
        hand = first_hand(long_machine(), 9)
        now = hand
        for turn in range(40):
            shape = SHAPES[turn % len(SHAPES)]
            outcome, behind, paper = taken(now, shape)
            self.same((outcome, paper), by_hand(now, shape))
            self.same(list(paper[3]), hand.draws(behind.place)[0][now.place:])
            now = behind

    def test_as_wide_as_the_machine(self):
        own = narrow_machine()
        for seed in range(2):
            hand = first_hand(own, seed)
            for place in range(8):
                self.same(taken(hand.jumped(place), Below(16))[0], own.state(seed, (), place))
        self.refused(TooWide, [17], taken, first_hand(own, 0), Below(17))
        self.refused(TooWide, [20], taken, first_hand(own, 0), Sets(6, 3))
        self.same(taken(first_hand(Machine(32, 5, 6, 2), 5), Below(2 ** 64))[2][3], (5 << 32,))

    def test_the_order_of_the_refusals(self):
        spent = first_hand(narrow_machine(), 1).jumped(8)
        for thing in no_hands():
            for shape in (Below(6), Below(17), None):
                self.refused(NoHand, [thing], taken, thing, shape)
        for thing in no_shapes():
            for hand in (spent, first_hand(narrow_machine(), 1)):
                self.refused(NoShape, [thing], taken, hand, thing)
        self.refused(TooWide, [17], taken, spent, Below(17))
        self.refused(Spent, [(), 8], taken, spent, Below(16))
        self.refused(Spent, [(), 8], taken, spent, Below(1))

    def test_where_all_draws_are_thrown(self):
        own = Machine(4, 2, 1, 2)
        part = first_hand(own, 15).parted(2)[0][1]
        # Without steps the seed's figures are the highest ones, so that all states of the last seed are thrown.
        for place in range(5):
            self.refused(Spent, [part.path, place], taken, part.jumped(place), Below(129))
            self.refused(Spent, [part.path, place], taker(Below(129)), part.jumped(place))
        self.same(taken(part, Below(128))[2][3], (248,))

    def test_takers(self):
        for shape in SHAPES:
            take = taker(shape)
            for hand in itertools.islice(hands(machine()), 40):
                for times in range(2):
                    if by_hand(hand, shape) is None:
                        self.refused(Spent, [hand.path, hand.place], take, hand)
                    else:
                        outcome, behind, paper = take(hand)
                        self.same((outcome, paper), by_hand(hand, shape))
                        self.assertTrue(same_hand(behind, taken(hand, shape)[1]))
            for thing in no_hands():
                self.refused(NoHand, [thing], take, thing)
        for thing in no_shapes():
            self.refused(NoShape, [thing], taker, thing)
        self.refused(TooWide, [17], taker(Below(17)), first_hand(narrow_machine(), 0))

    def test_two_takers_do_not_mingle(self):
        one, other = taker(Below(2)), taker(Orders(3))
        hand = first_hand(machine(), 1)
        self.same(one(hand)[0], taken(hand, Below(2))[0])
        self.same(other(hand)[0], taken(hand, Orders(3))[0])
        self.same(one(hand)[0], taken(hand, Below(2))[0])


class Shuffling(Case):
    def test_every_hand_and_rows_of_few_things(self):
        seen = {"last": 0, "spent": 0}
        for hand in hands(machine()):
            for many in range(9):
                row = list("abcdefgh"[:many])
                before = hand.told()
                wanted = row_by_hand(hand, row)
                if wanted is None:
                    seen["spent"] += hand.left_over() > 1
                    self.refused(Spent, [hand.path, hand.place], shuffled, hand, row)
                else:
                    found, behind, papers = shuffled(hand, row)
                    self.same((found, papers, behind.place), wanted)
                    self.assertTrue(same_hand(behind, hand.jumped(behind.place - hand.place)))
                    seen["last"] += behind.left_over() == 0
                self.same(row, list("abcdefgh"[:many]))
                self.same(hand.told(), before)
        self.assertTrue(all(many > 20 for many in seen.values()), seen)

    def test_rows_of_one_thing_or_none(self):
        for hand in (first_hand(machine(), 1), first_hand(machine(), 1).jumped(8), first_hand(narrow_machine(), 1)):
            for row in ([], ["a"], [[1]]):
                found, behind, papers = shuffled(hand, row)
                self.same(found, row)
                self.assertIsNot(found, row)
                self.assertIs(behind, hand)
                self.same(papers, [])

    def test_as_many_things_as_there_may_be(self):
        for seed in range(16):
            hand = first_hand(long_machine(), seed)
            for many in (17, 59, 60):
                row = list(range(100, 100 + many))
                found, behind, papers = shuffled(hand, row)
                self.same((found, papers, behind.place), row_by_hand(hand, row))
                self.assertEqual(len(papers), many - 1)
                self.assertEqual(sorted(found), row)
                for k, paper in enumerate(papers):
                    outcome = taken(hand.jumped(paper[2]), Below(many - k))[0]
                    self.assertTrue(is_paper(hand.machine, Below(many - k), paper, outcome))
        row = [0] * 61
        self.refused(NoRow, [row], shuffled, first_hand(long_machine(), 0), row)

    def test_the_things_of_the_row_are_told_themselves(self):
        row = [[1], {"a": 1}, Plus(1), None, True, (2,), "x", first_hand(machine(), 0)]
        kept = list(row)
        found = shuffled(first_hand(long_machine(), 3), row)[0]
        self.assertEqual(sorted(id(thing) for thing in found), sorted(id(thing) for thing in kept))
        self.assertTrue(all(one is other for one, other in zip(row, kept)))
        self.assertIsNot(found, row)
        same = ["a"] * 5
        self.same(shuffled(first_hand(long_machine(), 3), same)[0], same)

    def test_the_order_of_the_refusals(self):
        spent = first_hand(narrow_machine(), 1).jumped(8)
        for thing in no_hands():
            for row in ([], None, [0] * 61):
                self.refused(NoHand, [thing], shuffled, thing, row)
        for thing in (None, True, 5, "", "abc", (), (1, 2), {}, {1: 2}, [0] * 61, [0] * 300, Plus(1), Below(2)):
            self.refused(NoRow, [thing], shuffled, spent, thing)
            self.refused(NoRow, [thing], shuffled, first_hand(machine(), 0), thing)
        for many in (17, 60):
            self.refused(TooWide, [many], shuffled, spent, [0] * many)
            self.refused(TooWide, [many], shuffled, first_hand(narrow_machine(), 1), [0] * many)
        for many in (2, 16):
            self.refused(Spent, [(), 8], shuffled, spent, [0] * many)
        wide = first_hand(Machine(1, 1, 0, 4, [Times(5)]), 1)
        self.refused(TooWide, [33], shuffled, wide, [0] * 33)
        self.refused(Spent, [wide.path, 0], shuffled, wide, [0] * 32)

    def test_the_handed_hand_is_told_where_it_has_too_few(self):
        own = machine()
        part = first_hand(own, 2).parted(3)[0][2]
        for place in range(9):
            self.refused(Spent, [part.path, place], shuffled, part.jumped(place), [0] * 12)


class Picking(Case):
    def test_every_hand_and_rows_of_few_things(self):
        seen = {"last": 0, "spent": 0}
        for hand in hands(machine()):
            for many in range(8):
                for size in range(many + 1):
                    row = list("abcdefg"[:many])
                    before = hand.told()
                    wanted = by_hand(hand, Sets(many, size))
                    if wanted is None:
                        seen["spent"] += 1
                        self.refused(Spent, [hand.path, hand.place], picked, hand, row, size)
                    else:
                        found, behind, paper = picked(hand, row, size)
                        self.same((found, paper), ([row[at] for at in wanted[0]], wanted[1]))
                        self.assertTrue(same_hand(behind, hand.jumped(len(paper[3]))))
                        self.assertTrue(is_paper(hand.machine, Sets(many, size), paper, wanted[0]))
                        seen["last"] += behind.left_over() == 0
                    self.same(row, list("abcdefg"[:many]))
                    self.same(hand.told(), before)
        self.assertTrue(all(many > 20 for many in seen.values()), seen)

    def test_none_all_and_one_more(self):
        hand = first_hand(long_machine(), 3)
        for row in ([], ["a"], list(range(60))):
            found, behind, paper = picked(hand, row, 0)
            self.same((found, behind.place, len(paper[3])), ([], 1, 1))
            found, behind, paper = picked(hand, row, len(row))
            self.same((found, behind.place, len(paper[3])), (row, 1, 1))
            self.assertIsNot(found, row)
            self.refused(NoNumber, [len(row) + 1], picked, hand, row, len(row) + 1)

    def test_the_things_of_the_row_are_told_themselves(self):
        row = [[1], {"a": 1}, Plus(1), None]
        found = picked(first_hand(long_machine(), 3), row, 4)[0]
        self.assertTrue(all(one is other for one, other in zip(found, row)))

    def test_the_order_of_the_refusals(self):
        spent = first_hand(narrow_machine(), 1).jumped(8)
        fresh = first_hand(narrow_machine(), 1)
        for thing in no_hands():
            for row in ([], None):
                self.refused(NoHand, [thing], picked, thing, row, -1)
        for thing in (None, True, 5, "", "abc", (), (1, 2), {}, [0] * 61, Plus(1), Below(2)):
            self.refused(NoRow, [thing], picked, spent, thing, -1)
            self.refused(NoRow, [thing], picked, fresh, thing, 0)
        for thing in [-1, 7, 10 ** 59] + no_whole_numbers():
            self.refused(NoNumber, [thing], picked, spent, [0] * 6, thing)
            self.refused(NoNumber, [thing], picked, fresh, [0] * 6, thing)
        self.refused(TooWide, [20], picked, spent, [0] * 6, 3)
        self.refused(TooWide, [20], picked, fresh, [0] * 6, 3)
        self.refused(TooWide, [17], picked, fresh, [0] * 17, 1)
        self.refused(Spent, [(), 8], picked, spent, [0] * 6, 2)
        self.refused(Spent, [(), 8], picked, spent, [], 0)
        self.same(picked(fresh, [7] * 60, 60)[0], [7] * 60)

    def test_just_as_often(self):
        # Over all states each set comes just as often: here the machine has one hand with all states.
        own = Machine(0, 1, 0, 6, STEPS)
        counted = {}
        hand = first_hand(own, 0)
        for place in range(64):
            if by_hand(hand.jumped(place), Sets(4, 2)) is not None:
                found, behind, paper = picked(hand.jumped(place), list("abcd"), 2)
                if len(paper[3]) == 1:
                    counted[tuple(found)] = counted.get(tuple(found), 0) + 1
        self.assertEqual(counted, {pair: 10 for pair in itertools.combinations("abcd", 2)})


class Same(Case):
    def test_asked_again_it_has_an_equal_answer(self):
        chance = random.Random(72)
        for turn in range(50):
            own, other = long_machine(), long_machine()
            seed, place = chance.randrange(16), chance.randrange(200)
            one, again = first_hand(own, seed).jumped(place), first_hand(other, seed).jumped(place)
            row = list(range(chance.randrange(2, 20)))
            first, second = shuffled(one, row), shuffled(again, row)
            self.assertTrue(alike(first[0], second[0]) and alike(first[2], second[2]) and same_hand(first[1], second[1]))
            first[0].clear()
            first[2].clear()
            third = shuffled(one, row)
            self.assertTrue(alike(third[0], second[0]) and alike(third[2], second[2]))


if __name__ == "__main__":
    unittest.main()
