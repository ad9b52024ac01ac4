"""Points [41] to [45], and what [6] tells of hands."""

import itertools
import random
import unittest

from helpers import Case, alike, no_whole_numbers
from splitseed.chains import Back, Chain
from splitseed.errors import NoHand, NoJoin, NoNumber, NoSeed, Spent, TooDeep, TooMany
from splitseed.hands import Hand, first_hand, hand_of, joined, same_hand
from splitseed.machines import Machine
from splitseed.steps import Cross, Fold, Lean, Plus, Times, Turn

STEPS = [Plus(11), Times(13), Back(Chain([Fold(2), Turn(3)])), Lean(5), Cross(0x9E3779B97F4A7C15)]


def machine():
    """Eight seeds, parts up to seven, depth 2, sixteen places."""
    return Machine(3, 3, 2, 4, STEPS)


def fields(hand):
    return (hand.seed, hand.path, hand.place, hand.given, hand.stubs)


class First(Case):
    def test_the_first_hand(self):
        own = machine()
        for seed in range(8):
            hand = first_hand(own, seed)
            self.assertIsInstance(hand, Hand)
            self.assertIs(hand.machine, own)
            self.same(fields(hand), (seed, (), 0, 0, ()))
            self.same(hand.told(), (seed, (), 0, 0, ()))

    def test_no_seeds(self):
        for thing in [-1, 8, 10 ** 59] + no_whole_numbers():
            self.refused(NoSeed, [thing], first_hand, machine(), thing)
        self.refused(NoSeed, [1], first_hand, Machine(0, 1, 0, 4), 1)
        self.same(first_hand(Machine(0, 1, 0, 4), 0).told(), (0, (), 0, 0, ()))

    def test_methods_stand_in_the_class_itself(self):
        for name in ("draw", "draws", "jumped", "left_over", "drawer", "parted", "told"):
            self.assertIn(name, vars(Hand))


class Drawing(Case):
    def test_draws_are_the_machines_states(self):
        own = machine()
        for hand in (first_hand(own, 5), first_hand(own, 2).parted(3)[0][2], first_hand(own, 5).jumped(7)):
            states = [own.state(hand.seed, hand.path, place) for place in range(hand.place, 16)]
            self.same(hand.left_over(), len(states))
            self.same(hand.draws(len(states))[0], states)
            now = hand
            for at, state in enumerate(states):
                number, now = now.draw()
                self.same(number, state)
                self.same(now.told(), (hand.seed, hand.path, hand.place + at + 1, hand.given, hand.stubs))
            self.same(now.left_over(), 0)

    def test_a_hand_never_changes_by_its_deeds(self):
        own = machine()
        hand = first_hand(own, 5).jumped(3).parted(2)[1]
        before = hand.told()
        first = hand.draw()[0]
        hand.draws(5)
        hand.jumped(4)
        parts, behind = hand.parted(3)
        hand.drawer()(2)
        joined(parts)
        parts.clear()
        self.same(hand.told(), before)
        self.same(fields(hand), before)
        self.same(hand.draw()[0], first)
        self.assertIs(hand.machine, own)

    def test_draws_of_0_of_all_and_of_one_more(self):
        for place in (0, 1, 9, 15, 16):
            hand = first_hand(machine(), 5).jumped(place)
            numbers, behind = hand.draws(0)
            self.same(numbers, [])
            self.same(behind.told(), hand.told())
            numbers, behind = hand.draws(16 - place)
            self.assertEqual(len(numbers), 16 - place)
            self.same(behind.told(), (5, (), 16, 0, ()))
            self.refused(Spent, [hand.path, place], hand.draws, 17 - place)
            self.refused(Spent, [hand.path, place], hand.jumped, 17 - place)
            self.refused(Spent, [hand.path, place], hand.draws, 65536)
            self.refused(Spent, [hand.path, place], hand.jumped, 65536)

    def test_jumps(self):
        hand = first_hand(machine(), 5).parted(2)[0][1]
        for one in range(17):
            for other in range(17 - one):
                self.same(hand.jumped(one).jumped(other).told(), hand.jumped(one + other).told())
            self.same(hand.jumped(one).told(), hand.draws(one)[1].told())
            self.same(hand.jumped(one).draws(16 - one)[0], hand.draws(16)[0][one:])
        self.refused(Spent, [hand.path, 9], hand.jumped(9).jumped, 8)

    def test_a_spent_hand(self):
        hand = first_hand(machine(), 5).parted(2)[0][1].jumped(16)
        self.same(hand.left_over(), 0)
        self.refused(Spent, [hand.path, 16], hand.draw)
        self.refused(Spent, [hand.path, 16], hand.draws, 1)
        self.refused(Spent, [hand.path, 16], hand.jumped, 1)
        self.refused(Spent, [hand.path, 16], hand.drawer(), 0)
        self.same(hand.jumped(0).told(), hand.told())
        self.same(hand.draws(0)[0], [])

    def test_drawers(self):
        for place in (0, 5, 15):
            hand = first_hand(machine(), 5).jumped(place)
            drawer = hand.drawer()
            numbers, behind = hand.draws(16 - place)
            hand.parted(3)
            behind.parted(2)
            for k in list(range(16 - place)) * 2:
                self.same(drawer(k), numbers[k])
            self.refused(Spent, [hand.path, place], drawer, 16 - place)
            self.refused(Spent, [hand.path, place], drawer, 65536)

    def test_no_numbers_ahead_of_spent(self):
        own = machine()
        for hand in (first_hand(own, 5), first_hand(own, 5).jumped(16)):
            for call in (hand.draws, hand.jumped, hand.drawer()):
                for thing in [-1, 65537, 10 ** 59, -(10 ** 59)] + no_whole_numbers():
                    self.refused(NoNumber, [thing], call, thing)

    def test_the_greatest_length(self):
        hand = first_hand(Machine(0, 1, 0, 16, [Times(5)]), 0)
        self.same(hand.left_over(), 65536)
        numbers, behind = hand.draws(65536)
        self.assertEqual(sorted(numbers), list(range(65536)))
        self.same(behind.told(), (0, (), 65536, 0, ()))
        self.same(hand.drawer()(65535), numbers[-1])
        self.refused(Spent, [hand.path, 0], hand.drawer(), 65536)
        self.same(hand.jumped(65536).told(), behind.told())


class Splitting(Case):
    def test_two_where_it_is_left_out(self):
        own = machine()
        parts, behind = first_hand(own, 5).jumped(3).parted()
        self.assertIsInstance(parts, list)
        self.same([part.told() for part in parts], [(5, (0,), 0, 0, ((3, 0, 2),)), (5, (1,), 0, 0, ((3, 0, 2),))])
        self.same(behind.told(), (5, (), 3, 2, ()))
        for hand in [*parts, behind]:
            self.assertIs(hand.machine, own)

    def test_as_many_as_there_may_be_and_one_more(self):
        for part_bits, most in ((1, 1), (2, 3), (3, 7), (5, 31)):
            hand = first_hand(Machine(4, part_bits, 1, 4), 5)
            for many in range(1, most + 1):
                parts, behind = hand.parted(many)
                stubs = ((0, 0, many),)
                self.same([part.told() for part in parts], [(5, (number,), 0, 0, stubs) for number in range(many)])
                self.same(behind.told(), (5, (), 0, many, ()))
                if most - many + 1 <= 31:
                    self.refused(TooMany, [behind.path, most - many + 1], behind.parted, most - many + 1)
            if most < 31:
                self.refused(TooMany, [hand.path, most + 1], hand.parted, most + 1)
                self.refused(TooMany, [hand.path, 31], hand.parted, 31)
            self.refused(NoNumber, [32], hand.parted, 32)

    def test_split_twice(self):
        hand = first_hand(machine(), 5).parted(2)[1].jumped(4)
        parts, behind = hand.parted(3)
        self.same([part.path for part in parts], [(2,), (3,), (4,)])
        self.same([part.stubs for part in parts], [((4, 2, 3),)] * 3)
        self.same(behind.told(), (5, (), 4, 5, ()))
        self.same(behind.parted(2)[1].given, 7)
        self.refused(TooMany, [behind.path, 3], behind.parted, 3)
        self.refused(TooMany, [behind.path, 1], behind.parted(2)[1].parted, 1)

    def test_parts_of_parts(self):
        part = first_hand(machine(), 5).jumped(4).parted(3)[0][2].jumped(6)
        parts, behind = part.parted(1)
        self.same(parts[0].told(), (5, (2, 0), 0, 0, ((4, 0, 3), (6, 0, 1))))
        self.same(behind.told(), (5, (2,), 6, 1, ((4, 0, 3),)))
        self.refused(TooDeep, [parts[0].path], parts[0].parted, 1)
        self.refused(TooDeep, [parts[0].path], parts[0].parted, 31)
        self.refused(TooDeep, [parts[0].path], parts[0].parted)

    def test_a_spent_hand_is_split(self):
        hand = first_hand(machine(), 5).jumped(16)
        parts, behind = hand.parted(2)
        self.same([part.told() for part in parts], [(5, (0,), 0, 0, ((16, 0, 2),)), (5, (1,), 0, 0, ((16, 0, 2),))])
        self.same(behind.told(), (5, (), 16, 2, ()))
        self.same(parts[0].left_over(), 16)

    def test_refusals_in_their_order(self):
        own = machine()
        hand = first_hand(own, 5)
        full = hand.parted(7)[1]
        deep = hand.parted(1)[0][0].parted(1)[0][0]
        for one in (hand, full, deep, hand.jumped(16)):
            for thing in [0, -1, 32, 10 ** 59] + no_whole_numbers():
                self.refused(NoNumber, [thing], one.parted, thing)
        self.refused(TooMany, [full.path, 1], full.parted, 1)
        self.refused(TooMany, [hand.path, 8], hand.parted, 8)
        self.refused(TooDeep, [deep.path], deep.parted, 8)
        flat = first_hand(Machine(3, 3, 0, 4), 5)
        self.refused(TooDeep, [flat.path], flat.parted, 8)
        self.refused(TooDeep, [flat.path], flat.parted)

    def test_the_hand_behind_draws_as_if_not_split(self):
        hand = first_hand(machine(), 5).jumped(2)
        behind = hand.parted(3)[1].parted(1)[1]
        self.same(behind.draws(14)[0], hand.draws(14)[0])

    def test_no_two_hands_of_a_run_of_deeds_give_the_same_number(self):
        chance = random.Random(43)
        for turn in range(20):
            own = machine()
            hands = [first_hand(own, seed) for seed in range(8)]
            alone = {}
            seen = set()
            for deed in range(150):
                at = chance.randrange(len(hands))
                hand = hands[at]
                kind = chance.choice(("draw", "draw", "jump", "part"))
                if kind == "draw" and hand.left_over():
                    number, hands[at] = hand.draw()
                    self.assertNotIn(number, seen)
                    seen.add(number)
                    alone.setdefault((hand.seed, hand.path), []).append((hand.place, number))
                elif kind == "jump":
                    hands[at] = hand.jumped(chance.randrange(min(3, hand.left_over() + 1)))
                elif kind == "part" and len(hand.path) < 2 and hand.given < 7:
                    parts, hands[at] = hand.parted(chance.randrange(1, 8 - hand.given))
                    hands += parts
            for (seed, path), drawn in alone.items():
                for place, number in drawn:
                    self.same(own.read_state(number), (seed, path, place))


class Joining(Case):
    def setUp(self):
        self.machine = machine()
        self.hand = first_hand(self.machine, 5).parted(2)[1].jumped(4)
        self.parts, self.behind = self.hand.parted(3)

    def test_the_hand_behind_the_splitting_comes_back(self):
        whole = joined(self.parts)
        self.assertIsInstance(whole, Hand)
        self.same(whole.told(), self.behind.told())
        self.same(same_hand(whole, self.behind), True)
        self.same(whole.told(), (5, (), 4, 5, ()))

    def test_in_any_order_and_however_far_on(self):
        for parts in itertools.permutations(self.parts):
            self.same(joined(list(parts)).told(), self.behind.told())
        one, two, three = self.parts
        for moved in ([one.draw()[1], two.jumped(16), three.parted(4)[1].jumped(3)], [one.draws(9)[1], two, three]):
            self.same(joined(moved).told(), self.behind.told())
        self.behind.jumped(9).parted(1)
        self.same(joined(self.parts).told(), self.behind.told())

    def test_parts_of_parts(self):
        part = self.parts[1].jumped(7)
        parts, behind = part.parted(2)
        self.same(joined(parts[::-1]).told(), behind.told())
        self.same(joined(parts).told(), (5, (3,), 7, 2, ((4, 2, 3),)))
        self.same(joined([self.parts[0], joined(parts), self.parts[2]]).told(), self.behind.told())

    def test_one_part_alone(self):
        parts, behind = self.hand.parted(1)
        self.same(joined(parts).told(), behind.told())

    def test_what_is_handed_in_stays(self):
        handed = list(self.parts)
        joined(handed)
        self.assertEqual(handed, self.parts)
        self.same([part.place for part in handed], [0, 0, 0])

    def test_parts_of_machines_that_are_told_alike(self):
        twin = first_hand(machine(), 5).parted(2)[1].jumped(4).parted(3)[0]
        self.same(joined([self.parts[0], twin[1], self.parts[2]]).told(), self.behind.told())

    def test_a_part_left_out(self):
        for parts in itertools.combinations(self.parts, 2):
            self.refused(NoJoin, [2], joined, list(parts))
        for part in self.parts:
            self.refused(NoJoin, [1], joined, [part])

    def test_a_part_twice(self):
        one, two, three = self.parts
        self.refused(NoJoin, [1], joined, [one, one, two, three])
        self.refused(NoJoin, [2], joined, [one, two, one.jumped(3), three])
        self.refused(NoJoin, [3], joined, [one, two, three, one])
        self.refused(NoJoin, [3], joined, [one, two, three, three.parted(2)[1]])

    def test_no_list_and_nothing(self):
        for thing in no_whole_numbers() + [tuple(self.parts), self.hand, (), [], {}, 5, {0: self.parts[0]}]:
            if not isinstance(thing, list) or not thing:
                self.refused(NoJoin, [0], joined, thing)

    def test_things_that_are_no_hands(self):
        one, two, three = self.parts
        for thing in no_whole_numbers() + [5, one.told(), self.machine, [one]]:
            self.refused(NoJoin, [0], joined, [thing, one, two, three])
            self.refused(NoJoin, [1], joined, [one, thing, two, three])
            self.refused(NoJoin, [3], joined, [one, two, three, thing])

    def test_the_hand_itself(self):
        one, two, three = self.parts
        for hand in (self.hand, self.behind):
            self.refused(NoJoin, [0], joined, [hand])
            self.refused(NoJoin, [0], joined, [hand, one, two, three])
            self.refused(NoJoin, [2], joined, [one, two, hand, three])
            self.refused(NoJoin, [3], joined, [one, two, three, hand])

    def test_parts_of_another_splitting_seed_path_or_machine(self):
        one, two, three = self.parts
        others = [
            first_hand(self.machine, 5).parted(2)[0][0],
            self.behind.parted(2)[0][0],
            self.hand.parted(2)[0][1],
            self.hand.jumped(1).parted(3)[0][1],
            first_hand(self.machine, 5).parted(1)[1].jumped(4).parted(3)[0][1],
            first_hand(self.machine, 4).parted(2)[1].jumped(4).parted(3)[0][1],
            first_hand(Machine(3, 3, 2, 4, STEPS[1:]), 5).parted(2)[1].jumped(4).parted(3)[0][1],
            first_hand(Machine(3, 3, 2, 5, STEPS), 5).parted(2)[1].jumped(4).parted(3)[0][1],
            two.parted(1)[0][0],
        ]
        for other in others:
            self.refused(NoJoin, [1], joined, [one, other, three])
            self.refused(NoJoin, [1], joined, [one, other, None, three])
            self.refused(NoJoin, [2], joined, [one, two, other])
            self.refused(NoJoin, [1], joined, [other, one, three])

    def test_stubs_of_parts_of_parts_must_be_the_same_all_the_way(self):
        near = first_hand(self.machine, 5).jumped(1).parted(2)[0][0].parted(2)[0]
        far = first_hand(self.machine, 5).jumped(2).parted(2)[0][0].parted(2)[0]
        other = first_hand(self.machine, 5).jumped(1).parted(2)[0][1].parted(2)[0]
        self.same(joined(near).told(), (5, (0,), 0, 2, ((1, 0, 2),)))
        self.refused(NoJoin, [1], joined, [near[0], far[1]])
        self.refused(NoJoin, [1], joined, [near[0], other[1]])


class Telling(Case):
    def hands(self):
        own = machine()
        first = first_hand(own, 7)
        parts, behind = first.jumped(16).parted(7)
        inner, after = parts[6].jumped(3).parted(4)
        return [first, first.jumped(16), behind, *parts, *inner, after, inner[3].jumped(16)]

    def test_told_and_made_again(self):
        for hand in self.hands():
            again = hand_of(hand.machine, hand.told())
            self.assertIsInstance(again, Hand)
            self.assertIs(again.machine, hand.machine)
            self.same(again.told(), hand.told())
            self.same(fields(again), fields(hand))
            self.same(same_hand(hand, again), True)
            self.same(again.draws(again.left_over())[0], hand.draws(hand.left_over())[0])

    def let_by(self, told):
        self.same(hand_of(machine(), told).told(), told)

    def none(self, told):
        self.refused(NoHand, [told], hand_of, machine(), told)

    def test_each_bound_of_each_part(self):
        for told in (
            (0, (), 0, 0, ()), (7, (), 16, 7, ()), (7, (6,), 16, 7, ((16, 0, 7),)), (7, (6,), 0, 0, ((0, 6, 1),)),
            (0, (0, 6), 16, 0, ((0, 0, 1), (16, 0, 7))), (1, (3,), 2, 1, ((5, 1, 3),)), (1, (1,), 2, 1, ((5, 1, 3),)),
        ):
            self.let_by(told)
        for told in (
            (8, (), 0, 0, ()), (-1, (), 0, 0, ()), (0, (), 17, 0, ()), (0, (), -1, 0, ()), (0, (), 0, 8, ()),
            (0, (), 0, -1, ()), (0, (7,), 0, 0, ((0, 0, 7),)), (0, (-1,), 0, 0, ((0, 0, 7),)),
            (0, (0, 0), 0, 1, ((0, 0, 1), (0, 0, 1))), (0, (0, 0, 0), 0, 0, ((0, 0, 1),) * 3),
            (0, (0,), 0, 0, ((17, 0, 1),)), (0, (0,), 0, 0, ((-1, 0, 1),)), (0, (0,), 0, 0, ((0, -1, 2),)),
            (0, (0,), 0, 0, ((0, 0, 0),)), (0, (0,), 0, 0, ((0, 0, 8),)), (0, (0,), 0, 0, ((0, 0, 32),)),
            (0, (1,), 0, 0, ((0, 1, 7),)), (0, (0,), 0, 0, ((0, 1, 3),)), (0, (4,), 0, 0, ((0, 1, 3),)),
            (0, (6,), 0, 0, ((0, 6, 2),)), (0, (0,), 0, 0, ((0, 0, -1),)),
        ):
            self.none(told)

    def test_given_where_the_path_is_as_deep_as_the_machine(self):
        flat = Machine(3, 3, 0, 4)
        self.same(hand_of(flat, (5, (), 3, 0, ())).told(), (5, (), 3, 0, ()))
        told = (5, (), 3, 1, ())
        self.refused(NoHand, [told], hand_of, flat, told)
        self.let_by((5, (1,), 3, 1, ((0, 1, 1),)))

    def test_the_widest_parts(self):
        wide = Machine(3, 5, 1, 4)
        for told in ((0, (30,), 0, 0, ((0, 0, 31),)), (0, (30,), 0, 0, ((0, 30, 1),)), (0, (), 0, 31, ())):
            self.same(hand_of(wide, told).told(), told)
        for told in ((0, (31,), 0, 0, ((0, 31, 1),)), (0, (30,), 0, 0, ((0, 0, 32),)), (0, (), 0, 32, ())):
            self.refused(NoHand, [told], hand_of, wide, told)

    def test_things_put_otherwise(self):
        whole = (1, (3, 0), 2, 0, ((5, 1, 3), (4, 0, 1)))
        self.let_by(whole)
        for at in range(5):
            for thing in no_whole_numbers() + [10 ** 59]:
                if not alike(thing, whole[at]):
                    self.none(whole[:at] + (thing,) + whole[at + 1:])
            self.none(whole[:at] + whole[at + 1:])
            self.none(whole[:at] + (whole[at],) + whole[at:])
        self.none(list(whole))
        self.none((1, [3, 0], 2, 0, whole[4]))
        self.none((1, (3, 0), 2, 0, list(whole[4])))
        for at, stub in enumerate(whole[4]):
            others = [list(stub), stub[:2], stub + (1,), (), None, 5, "abc"]
            for inner in range(3):
                others += [stub[:inner] + (thing,) + stub[inner + 1:] for thing in no_whole_numbers()]
            for other in others:
                stubs = whole[4][:at] + (other,) + whole[4][at + 1:]
                self.none((1, (3, 0), 2, 0, stubs))
        self.none((1, (3, 0), 2, 0, whole[4][:1]))
        self.none((1, (3, 0), 2, 0, whole[4] + ((0, 0, 1),)))
        self.none((1, (3,), 2, 0, whole[4]))
        self.none((1, (), 2, 0, whole[4]))
        self.none((1, (3, 0), 2, 0, whole[4][::-1]))

    def test_truths_for_numbers(self):
        for told in (
            (True, (), 0, 0, ()), (0, (), True, 0, ()), (0, (), 0, False, ()), (0, (False,), 0, 0, ((0, 0, 1),)),
            (0, (0,), 0, 0, ((False, 0, 1),)), (0, (0,), 0, 0, ((0, False, 1),)), (0, (0,), 0, 0, ((0, 0, True),)),
        ):
            self.none(told)

    def test_other_things(self):
        for thing in no_whole_numbers() + [5, first_hand(machine(), 5), machine()]:
            self.none(thing)

    def test_same_hand(self):
        for one in self.hands():
            for other in self.hands():
                self.same(same_hand(one, other), one.told() == other.told())
        told = (5, (1,), 3, 0, ((0, 1, 1),))
        one = hand_of(machine(), told)
        self.same(same_hand(one, hand_of(machine(), told)), True)
        for other in (Machine(3, 3, 2, 4, STEPS[:-1]), Machine(3, 3, 2, 5, STEPS), Machine(4, 3, 2, 4, STEPS)):
            self.same(same_hand(one, hand_of(other, told)), False)
            self.same(same_hand(hand_of(other, told), one), False)
        for other in ((4, *told[1:]), (5, (1,), 4, 0, told[4]), (5, (1,), 3, 1, told[4]), (5, (1,), 3, 0, ((1, 1, 1),))):
            self.same(same_hand(one, hand_of(machine(), other)), False)


if __name__ == "__main__":
    unittest.main()
