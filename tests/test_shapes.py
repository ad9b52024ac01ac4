"""Points [61] to [66], and how a shape is written [67]."""

import itertools
import math
import random
import unittest

from helpers import Case, alike, no_whole_numbers
from splitseed.errors import NoNumber, NoShape, NoShares, NoWidth, TooWide
from splitseed.shapes import Below, Orders, Pair, Rows, Sets, Shape, Shares, shape_of
from splitseed.steps import Plus

BIG = 2 ** 64

SMALL = (
    ("below", 1), ("below", 2), ("below", 6), ("below", 16), ("below", 17), ("shares", (3, 1, 2)), ("shares", (1,)),
    ("shares", (0, 2, 0, 0, 3, 0)), ("shares", (0, 0, 5)), ("shares", (1,) * 60), ("orders", 0), ("orders", 1),
    ("orders", 2), ("orders", 4), ("sets", 0, 0), ("sets", 5, 0), ("sets", 5, 5), ("sets", 5, 2), ("sets", 6, 3),
    ("pair", ("below", 3), ("orders", 3)), ("pair", ("orders", 3), ("below", 3)), ("pair", ("below", 1), ("below", 1)),
    ("pair", ("shares", (2, 0, 1)), ("shares", (1, 2))), ("rows", ("below", 2), 3), ("rows", ("below", 5), 0),
    ("rows", ("below", 5), 1), ("rows", ("below", 1), 12), ("rows", ("below", 2), 6), ("rows", ("shares", (1, 0, 2)), 3),
    ("rows", ("sets", 3, 1), 2), ("rows", ("pair", ("below", 2), ("sets", 3, 2)), 2),
    ("pair", ("rows", ("shares", (1, 2)), 2), ("pair", ("below", 2), ("orders", 2))),
    ("rows", ("rows", ("rows", ("below", 2), 2), 1), 2), ("rows", ("rows", ("rows", ("below", 7), 0), 5), 2),
    ("pair", ("pair", ("pair", ("below", 2), ("below", 3)), ("below", 2)), ("shares", (2, 0, 1))),
    ("rows", ("rows", ("rows", ("below", 1), 12), 12), 12), ("pair", ("rows", ("shares", (0, 3)), 3), ("below", 2)),
)


def every_outcome(told):
    """The outcome of each number, from 0 on."""
    if told[0] == "below":
        return list(range(told[1]))
    if told[0] == "shares":
        return [at for at, share in enumerate(told[1]) for times in range(share)]
    if told[0] == "orders":
        return list(itertools.permutations(range(told[1])))
    if told[0] == "sets":
        return list(itertools.combinations(range(told[1]), told[2]))
    if told[0] == "pair":
        return list(itertools.product(every_outcome(told[1]), every_outcome(told[2])))
    return list(itertools.product(every_outcome(told[1]), repeat=told[2]))


def height_of(told):
    return 1 + max(height_of(part) for part in told[1:] if isinstance(part, tuple)) if told[0] in ("pair", "rows") else 0


def words_of(told):
    if told[0] == "pair":
        return f"pair ( {words_of(told[1])} ) ( {words_of(told[2])} )"
    if told[0] == "rows":
        return f"rows {told[2]} ( {words_of(told[1])} )"
    return " ".join(str(part) for part in (told[:1] + told[1] if told[0] == "shares" else told))


def no_shapes():
    """Things that are no shapes, new ones each time."""
    return [
        None, True, 0, 6, "", "below 6", "below", [], ["below", 6], (), ("below", 6), {}, {"below": 6}, Plus(6), [Below(6)],
        (Below(6),),
    ]


def others(outcome):
    """Things that are like an outcome but none of the same kinds in all their parts, or beside it."""
    found = [None, True, False, "", str(outcome), [outcome], (outcome,), {}, -1, 10 ** 59, Plus(1)]
    if not isinstance(outcome, tuple):
        found = [outcome + 1, outcome - 1] + found
    else:
        found += [list(outcome), outcome + (0,), outcome + ((),), outcome[:-1] if outcome else (0,)]
        for at, part in enumerate(outcome):
            found += [outcome[:at] + (other,) + outcome[at + 1:] for other in others(part)[:15]]
    return found


class Outcomes(Case):
    def test_numbers_heights_and_outcomes(self):
        for told in SMALL:
            shape = shape_of(told)
            wanted = every_outcome(told)
            self.same(shape.numbers(), len(wanted))
            self.same(shape.height(), height_of(told))
            self.same([shape.outcome(number) for number in range(len(wanted))], wanted)

    def test_how_many_and_the_first_number(self):
        for told in SMALL:
            shape = shape_of(told)
            wanted = every_outcome(told)
            for outcome in wanted:
                self.same(shape.how_many_for(outcome), wanted.count(outcome))
                self.same(shape.first_for(outcome), wanted.index(outcome))

    def test_things_that_are_no_outcomes(self):
        for told in SMALL:
            shape = shape_of(told)
            wanted = every_outcome(told)
            for outcome in wanted[:3] + wanted[-1:]:
                for thing in others(outcome):
                    if not any(alike(thing, right) for right in wanted):
                        self.same(shape.how_many_for(thing), 0)
                        self.same(shape.first_for(thing), None)

    def test_truths_are_no_outcomes(self):
        for shape in (Below(2), Shares([1, 1]), Shares((3, 4))):
            for thing in (True, False):
                self.same(shape.how_many_for(thing), 0)
                self.same(shape.first_for(thing), None)
        for shape, thing in (
            (Orders(2), (False, True)), (Orders(2), (0, True)), (Sets(3, 2), (False, 2)), (Sets(3, 2), (True, 2)),
            (Pair(Below(2), Below(2)), (True, 0)), (Pair(Below(2), Below(2)), (0, True)), (Rows(Below(2), 1), (True,)),
            (Orders(2), [0, 1]), (Sets(3, 2), [0, 1]), (Pair(Below(2), Below(2)), [0, 1]), (Rows(Below(2), 2), [0, 1]),
            (Orders(0), []), (Sets(4, 0), []), (Rows(Below(2), 0), []), (Rows(Orders(1), 1), ([0],)),
        ):
            self.same(shape.how_many_for(thing), 0)
            self.same(shape.first_for(thing), None)

    def test_outcomes_of_other_sizes(self):
        self.same(Orders(3).how_many_for((0, 1)), 0)
        self.same(Orders(2).how_many_for((0, 1, 2)), 0)
        self.same(Sets(5, 2).how_many_for((0, 1, 2)), 0)
        self.same(Sets(5, 2).how_many_for((0, 5)), 0)
        self.same(Sets(5, 2).how_many_for((1, 0)), 0)
        self.same(Sets(5, 2).first_for((3, 4)), 9)
        self.same(Orders(20).how_many_for(tuple(range(60))), 0)
        self.same(Orders(20).first_for(tuple(range(19, -1, -1))), math.factorial(20) - 1)

    def test_a_share_of_0_is_the_outcome_of_no_number_but_its_place_counts(self):
        shape = Shares([0, 2, 0, 3])
        self.same([shape.outcome(number) for number in range(5)], [1, 1, 3, 3, 3])
        self.same([shape.how_many_for(at) for at in range(5)], [0, 2, 0, 3, 0])
        self.same([shape.first_for(at) for at in range(5)], [None, 0, None, 2, None])
        self.same(Pair(shape, Below(2)).first_for((2, 1)), None)
        self.same(Rows(shape, 2).first_for((3, 0)), None)
        self.same(Rows(shape, 2).first_for((3, 1)), 10)
        self.same(Rows(shape, 2).how_many_for((3, 1)), 6)

    def test_no_numbers_of_a_shape(self):
        for told in SMALL:
            shape = shape_of(told)
            for thing in [-1, shape.numbers(), shape.numbers() + 1, 10 ** 59] + no_whole_numbers():
                self.refused(NoNumber, [thing], shape.outcome, thing)

    def test_all_outcomes(self):
        for told in SMALL:
            shape = shape_of(told)
            wanted = every_outcome(told)
            counted = {outcome: 0 for outcome in wanted}
            for outcome in wanted:
                counted[outcome] += 1
            found = shape.all_outcomes()
            self.same(found, list(counted.items()))
            found.clear()
            self.same(shape.all_outcomes(), list(counted.items()))

    def test_all_outcomes_of_at_most_a_thousand_numbers(self):
        self.same(Below(1000).all_outcomes(), [(number, 1) for number in range(1000)])
        self.same(Shares([400, 0, 600]).all_outcomes(), [(0, 400), (2, 600)])
        self.same(len(Pair(Below(10), Rows(Below(10), 2)).all_outcomes()), 1000)
        for shape in (
            Below(1001), Below(BIG), Shares([1000, 1]), Orders(7), Sets(60, 30), Pair(Below(13), Below(77)), Rows(Below(2), 10),
        ):
            self.refused(TooWide, [shape.numbers()], shape.all_outcomes)
        self.same(len(Orders(6).all_outcomes()), 720)


class Values(Case):
    def test_every_value_of_a_small_width(self):
        for told in SMALL:
            shape = shape_of(told)
            wanted = every_outcome(told)
            for width in (4, 5, 6, 7):
                values = 2 ** width
                if len(wanted) > values:
                    for value in (0, values - 1):
                        self.refused(TooWide, [len(wanted)], shape.of, value, width)
                    continue
                found = [shape.of(value, width) for value in range(values)]
                per = values // len(wanted)
                due = [outcome for outcome in wanted for times in range(per)]
                thrown = values - len(due)
                self.same(found, due + [None] * thrown)
                self.assertLess(2 * thrown, values)
                for outcome in wanted:
                    self.assertEqual(found.count(outcome), shape.how_many_for(outcome) * per)

    def test_great_widths(self):
        self.same(Below(BIG).of(BIG - 1, 64), BIG - 1)
        self.same(Below(BIG).of(0, 64), 0)
        half = BIG // 2
        self.same(Below(half + 1).of(half, 64), half)
        self.same(Below(half + 1).of(half + 1, 64), None)
        self.same(Below(half + 1).of(BIG - 1, 64), None)
        self.same(Below(half).of(BIG - 1, 64), half - 1)
        self.same(Below(10).of(BIG - 7, 64), 9)
        self.same(Below(10).of(BIG - 6, 64), None)
        self.same(Below(1).of(15, 4), 0)
        self.same(Below(16).of(15, 4), 15)
        self.same(Rows(Below(2), 4).of(10, 4), (1, 0, 1, 0))

    def test_the_order_of_the_refusals(self):
        shape = Below(17)
        for width in [3, 65, -4, 10 ** 59] + no_whole_numbers():
            for value in (0, -1, None, BIG):
                self.refused(NoWidth, [width], shape.of, value, width)
        for width in (4, 5, 64):
            for value in [-1, 2 ** width, 10 ** 59] + no_whole_numbers():
                self.refused(NoNumber, [value], shape.of, value, width)
        self.refused(TooWide, [17], shape.of, 0, 4)
        self.refused(TooWide, [17], shape.of, 15, 4)
        self.same(shape.of(0, 5), 0)


class Making(Case):
    def test_bounds(self):
        for bound in (1, 2, 6, BIG - 1, BIG):
            self.same(Below(bound).numbers(), bound)
            self.same(Below(bound).outcome(bound - 1), bound - 1)
        for thing in [0, -1, -(10 ** 59)] + no_whole_numbers():
            self.refused(NoNumber, [thing], Below, thing)
        for bound in (BIG + 1, 10 ** 59):
            self.refused(TooWide, [bound], Below, bound)

    def test_shares(self):
        million = 1000000
        self.same(Shares([million] * 60).numbers(), 60 * million)
        self.same(Shares((million,)).outcome(million - 1), 0)
        for thing in (
            None, True, 3, "", {}, [], (), [0], (0, 0), [0] * 60, [1] * 61, [million + 1], [-1, 2], [True], [1, None], ["1"],
            [[1]], Plus(1), Below(3),
        ):
            self.refused(NoShares, [thing], Shares, thing)

    def test_shares_are_kept_as_a_copy(self):
        shares = [3, 1, 2]
        shape = Shares(shares)
        shares[0] = 100
        shares.append(7)
        self.same(shape.told(), ("shares", (3, 1, 2)))
        self.same(shape.numbers(), 6)
        self.same(shape.outcome(3), 1)
        self.same(shape.words(), "shares 3 1 2")

    def test_orders(self):
        self.same(Orders(0).all_outcomes(), [((), 1)])
        self.same(Orders(20).numbers(), math.factorial(20))
        self.same(Orders(20).outcome(math.factorial(20) - 1), tuple(range(19, -1, -1)))
        for thing in [-1, 21, 10 ** 59] + no_whole_numbers():
            self.refused(NoNumber, [thing], Orders, thing)

    def test_sets(self):
        self.same(Sets(60, 30).numbers(), math.comb(60, 30))
        self.same(Sets(60, 30).outcome(math.comb(60, 30) - 1), tuple(range(30, 60)))
        self.same(Sets(0, 0).all_outcomes(), [((), 1)])
        self.same(Sets(60, 60).outcome(0), tuple(range(60)))
        for thing in [-1, 61, 10 ** 59] + no_whole_numbers():
            self.refused(NoNumber, [thing], Sets, thing, None)
            self.refused(NoNumber, [thing], Sets, thing, 0)
            self.refused(NoNumber, [thing], Sets, 60, thing)
        for many in (0, 1, 5, 59):
            self.refused(NoNumber, [many + 1], Sets, many, many + 1)

    def test_pairs(self):
        self.same(Pair(Below(2 ** 32), Below(2 ** 32)).numbers(), BIG)
        self.same(Pair(Below(2 ** 32), Below(2 ** 32)).outcome(BIG - 1), (2 ** 32 - 1, 2 ** 32 - 1))
        self.same(Pair(Below(BIG), Below(1)).numbers(), BIG)
        for one, other in ((2 ** 32, 2 ** 32 + 1), (2 ** 32 + 1, 2 ** 32), (BIG, 2), (2, BIG), (BIG, BIG)):
            self.refused(TooWide, [one * other], Pair, Below(one), Below(other))
        for thing in no_shapes():
            self.refused(NoShape, [thing], Pair, thing, Below(2))
            self.refused(NoShape, [thing], Pair, thing, None)
            self.refused(NoShape, [thing], Pair, Below(BIG), thing)

    def test_rows(self):
        self.same(Rows(Below(40), 12).numbers(), 40 ** 12)
        self.same(Rows(Below(2 ** 32), 2).numbers(), BIG)
        self.same(Rows(Below(BIG), 1).numbers(), BIG)
        self.same(Rows(Below(BIG), 0).numbers(), 1)
        self.same(Rows(Below(1), 12).numbers(), 1)
        self.same(Rows(Below(40), 12).outcome(40 ** 12 - 1), (39,) * 12)
        for shape, many in ((Below(41), 12), (Below(BIG), 2), (Below(BIG), 12), (Below(2 ** 32 + 1), 2), (Orders(20), 2)):
            self.refused(TooWide, [shape.numbers() ** many], Rows, shape, many)
        for thing in no_shapes():
            self.refused(NoShape, [thing], Rows, thing, 2)
            self.refused(NoShape, [thing], Rows, thing, None)
        for thing in [-1, 13, 10 ** 59] + no_whole_numbers():
            self.refused(NoNumber, [thing], Rows, Below(2), thing)
            self.refused(NoNumber, [thing], Rows, Below(BIG), thing)

    def test_heights(self):
        one = Rows(Below(2), 1)
        two = Pair(Below(2), one)
        three = Rows(two, 1)
        self.same([shape.height() for shape in (Below(2), one, two, three)], [0, 1, 2, 3])
        self.same(Pair(one, Below(2)).height(), 2)
        self.same(Pair(two, Below(2)).height(), 3)
        self.same(Pair(Below(2), two).height(), 3)
        self.same(Pair(two, two).height(), 3)
        self.same(Rows(two, 0).height(), 3)
        self.refused(NoShape, [three], Pair, three, Below(2))
        self.refused(NoShape, [three], Pair, Below(2), three)
        self.refused(NoShape, [three], Rows, three, 1)
        self.refused(NoShape, [three], Rows, three, None)
        self.refused(NoShape, [three], Pair, three, None)
        self.refused(NoShape, [None], Pair, None, three)
        wide = Pair(Pair(Pair(Below(BIG), Below(1)), Below(1)), Below(1))
        self.refused(NoShape, [wide], Pair, Below(BIG), wide)


class Telling(Case):
    def test_told_and_made_again(self):
        for told in SMALL:
            shape = shape_of(told)
            self.assertIsInstance(shape, Shape)
            self.same(shape.told(), told)
            self.same(shape_of(shape.told()).told(), told)

    def test_the_kinds_that_are_made(self):
        for told, kind in (
            (("below", 6), Below), (("shares", (3, 1, 2)), Shares), (("orders", 4), Orders), (("sets", 5, 2), Sets),
            (("pair", ("below", 6), ("orders", 3)), Pair), (("rows", ("below", 2), 3), Rows),
        ):
            self.assertIs(type(shape_of(told)), kind)
        self.same(Below(6).told(), ("below", 6))
        self.same(Shares([3, 1, 2]).told(), ("shares", (3, 1, 2)))
        self.same(Orders(4).told(), ("orders", 4))
        self.same(Sets(5, 2).told(), ("sets", 5, 2))
        self.same(Pair(Below(6), Orders(3)).told(), ("pair", ("below", 6), ("orders", 3)))
        self.same(Rows(Below(2), 3).told(), ("rows", ("below", 2), 3))

    def test_written(self):
        self.same(Below(6).words(), "below 6")
        self.same(Shares([3, 1, 2]).words(), "shares 3 1 2")
        self.same(Orders(4).words(), "orders 4")
        self.same(Sets(5, 2).words(), "sets 5 2")
        self.same(Pair(Below(6), Orders(3)).words(), "pair ( below 6 ) ( orders 3 )")
        self.same(Rows(Below(2), 3).words(), "rows 3 ( below 2 )")
        for told in SMALL:
            self.same(shape_of(told).words(), words_of(told))

    def test_what_is_not_built_so(self):
        three = ("rows", ("rows", ("rows", ("below", 2), 1), 1), 1)
        self.same(shape_of(three).height(), 3)
        six = ("below", 6)
        for thing in no_shapes()[:10] + no_shapes()[11:] + [
            ("below",), ("below", 0), ("below", -1), ("below", True), ("below", "6"), ("below", 6, 6), ("below", (6,)), ["below", 6],
            ("shares", [3, 1, 2]), ("shares", 3, 1, 2), ("shares", 3), ("shares", ()), ("shares", (0,)), ("shares", (3, True)),
            ("shares", (1,) * 61), ("shares", (1000001,)), ("shares",), ("shares", (3,), (1,)), ("shares", None), ("shares", "312"),
            ("orders", -1), ("orders", 21), ("orders", True), ("orders", None), ("orders",), ("orders", 4, 4), ("orders", (4,)),
            ("sets", 5), ("sets", 5, 6), ("sets", 61, 2), ("sets", 5, -1), ("sets", -1, -1), ("sets", True, 0), ("sets", 5, True),
            ("sets", 5, 2, 2), ("sets", (5, 2)), ("sets", 5, None), ("sets", None, 2), ("sets",),
            ("pair", six), ("pair", six, six, six), ("pair", six, list(six)), ("pair", list(six), six), ("pair", six, None),
            ("pair", 6, six), ("pair", (six, six)), ("pair",), ("pair", Below(6), six), ("pair", six, Below(6)),
            ("pair", six, ("below", 0)), ("pair", ("below", 0), six), ("pair", three, six), ("pair", six, three), ("pair", six, 3),
            ("rows", six), ("rows", 3, six), ("rows", six, 13), ("rows", six, -1), ("rows", six, True), ("rows", six, None),
            ("rows", list(six), 3), ("rows", six, 3, 3), ("rows", ("below", 0), 3), ("rows", three, 1), ("rows",), ("rows", six, six),
            ("rows", Below(6), 3), ("Below", 6), ("belows", 6), ("", 6), (None, 6), (6, "below"), (["below"], 6), (six, six),
            ("plus", 6), ("row", six, 3), ("pairs", six, six), (True, 6), ({}, 6), ("below", Plus(6)), ("below", {}),
        ]:
            self.refused(NoShape, [thing], shape_of, thing)

    def test_too_wide_comes_behind_the_form(self):
        wide, wider = ("below", BIG + 1), ("below", BIG + 2)
        bad = ("below", 0)
        great = ("below", BIG)
        for thing in (
            ("pair", wide, bad), ("pair", bad, wide), ("rows", wide, 13), ("pair", wide, ("rows", wide, True)),
            ("pair", ("pair", ("rows", ("rows", wide, 1), 1), great), great), ("pair", ("pair", great, great), bad),
        ):
            self.refused(NoShape, [thing], shape_of, thing)
        for thing, total in (
            (wide, BIG + 1), (("pair", wide, wider), BIG + 1), (("pair", wider, wide), BIG + 2), (("rows", wide, 0), BIG + 1),
            (("pair", ("below", 2), wider), BIG + 2), (("pair", great, great), BIG * BIG), (("rows", great, 12), BIG ** 12),
            (("pair", ("pair", great, ("below", 2)), wide), 2 * BIG), (("pair", wide, ("pair", great, ("below", 2))), BIG + 1),
            (("pair", great, ("pair", great, ("below", 3))), 3 * BIG), (("rows", ("rows", great, 2), 0), BIG * BIG),
            (("pair", ("below", 2), ("rows", ("below", 2), 12)), None), (("rows", ("rows", ("below", 2), 12), 6), 2 ** 72),
            (("pair", ("orders", 20), ("orders", 20)), math.factorial(20) ** 2),
        ):
            if total is None:
                self.same(shape_of(thing).told(), thing)
            else:
                self.refused(TooWide, [total], shape_of, thing)

    def test_some_shapes(self):
        chance = random.Random(66)
        made = 0
        for turn in range(600):
            told = self.some_told(chance, 3)
            try:
                shape = shape_of(told)
            except TooWide as refusal:
                self.assertGreater(refusal.total, BIG)
                continue
            made += 1
            self.same(shape.told(), told)
            self.same(shape.words(), words_of(told))
            self.same(shape.height(), height_of(told))
            most = shape.numbers()
            for number in {0, most - 1, most // 2, chance.randrange(most)}:
                outcome = shape.outcome(number)
                first = shape.first_for(outcome)
                self.assertTrue(first <= number < first + most)
                self.same(shape.outcome(first), outcome)
                self.assertGreaterEqual(shape.how_many_for(outcome), 1)
                per = BIG // most
                self.same(shape.of(number * per, 64), outcome)
                self.same(shape.of(number * per + per - 1, 64), outcome)
            if most * (BIG // most) < BIG:
                self.same(shape.of(most * (BIG // most), 64), None)
        self.assertGreater(made, 300)

    def some_told(self, chance, room):
        kind = chance.randrange(6 if room else 4)
        if kind == 0:
            return ("below", chance.choice([1, 2, 6, chance.randrange(1, 1000)]))
        if kind == 1:
            return ("shares", (chance.randrange(4),) * chance.randrange(4) + (chance.randrange(1, 1000),))
        if kind == 2:
            return ("orders", chance.randrange(9))
        if kind == 3:
            many = chance.choice([0, 1, 60, chance.randrange(12)])
            return ("sets", many, chance.randrange(min(many, 3) + 1))
        if kind == 4:
            return ("pair", self.some_told(chance, room - 1), self.some_told(chance, room - 1))
        return ("rows", self.some_told(chance, room - 1), chance.choice([0, 1, 2, 3, 12]))


if __name__ == "__main__":
    unittest.main()
