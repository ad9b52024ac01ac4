"""Points [1] to [6] over the whole program: what its parts promise together."""

import random
import unittest

from helpers import Case, names_in, some_scripts
from splitseed.alone import alone
from splitseed.chains import Back, Chain
from splitseed.desk import Desk
from splitseed.deskwords import outcome_text
from splitseed.errors import SeedError
from splitseed.hands import first_hand, joined, same_hand
from splitseed.handtext import read_hand, show_hand
from splitseed.ledgers import drawn_by, ledger, whose
from splitseed.machines import Machine, machine_of, same_machine
from splitseed.machinetext import read_machine, show_machine
from splitseed.origins import covers, meeting, numbers_of, origin_of
from splitseed.papers import is_paper, read_paper, show_paper
from splitseed.plans import plan_of
from splitseed.plantext import read_plan, show_plan
from splitseed.rounds import tally
from splitseed.shaped import taken
from splitseed.shapes import Below, Orders, Pair, Rows, Sets, Shares, shape_of
from splitseed.shapetext import read_shape
from splitseed.steps import Cross, Fold, Lean, Plus, Rise, Times, Turn
from splitseed.tables import Table
from splitseed.trees import all_paths, family, name_at, show_tree

STEPS = [Times(77), Fold(3), Plus(11), Back(Chain([Fold(2), Turn(3)])), Lean(5), Cross(45), Rise(4), Times(13)]
HOLDERS = ("house", "ann", "bob")


def machine():
    """Four seeds, seven parts, depth 3, 64 places: the width 17."""
    return Machine(2, 3, 3, 6, STEPS)


def dealt(chance, own, seed, plan):
    """A table of a plan that was served out in some order, by some holders."""
    table = Table(own, seed, plan)
    while not table.all_over():
        there = [name for name in plan.names() if table.is_there(name)]
        table.hand_on(chance.choice(there), chance.choice(HOLDERS))
        deed = chance.randrange(3)
        if deed == 0:
            table.serve(chance.choice(plan.names()))
        elif deed == 1:
            table.serve_holder(chance.choice(HOLDERS))
        else:
            table.deal(chance.choices(plan.names(), k=3))
    return table


def some_plans(chance, many):
    """So many seeds and plans by chance that the machine does not refuse, with their scripts."""
    while many > 0:
        scripts = some_scripts(chance, hands=8, rows=6)
        seed = chance.randrange(4)
        try:
            Table(machine(), seed, plan_of(scripts))
        except SeedError:
            continue
        many -= 1
        yield seed, scripts, plan_of(scripts, chance.choices(names_in(scripts), k=chance.randint(0, 4)))


def came_text(word, thing):
    """What a desk should answer for what came of a row."""
    if word == "take":
        return outcome_text(thing)
    return " ".join(str(part) for part in thing) if isinstance(thing, tuple) else str(thing)


class Plans(Case):
    def desk_with(self, own, plan, seed):
        """A desk to which a machine and a plan were told, and that dealt it."""
        desk = Desk()
        for row in show_machine(own).split("\n"):
            desk.say(row if row.startswith("machine") else "step " + row)
        for row in show_plan(plan).split("\n"):
            desk.say("row " + row)
        self.same(desk.say(f"deal {seed}"), plan.names())
        return desk

    def test_desk_table_and_each_hand_alone_agree(self):
        chance = random.Random(6)
        for seed, scripts, plan in some_plans(chance, 60):
            own = machine()
            table = dealt(chance, own, seed, plan)
            desk = self.desk_with(own, plan, seed)
            rows = 0
            for turn in range(chance.randint(0, 20)):
                name = chance.choice(plan.names())
                rows += int(desk.say(f"serve {name}")[0])
            rows += int(desk.say("rest")[0])
            self.same(rows, sum(len(own_rows) for name, own_rows in scripts))
            self.same("\n".join(desk.say("tree")), show_tree(plan))
            for name in plan.names():
                came, papers = alone(own, seed, plan, name)
                self.same((table.came(name), table.papers(name)), (came, papers))
                words = [word for word, inner in plan.rows_of(name)]
                self.same(desk.say(f"came {name}"), [came_text(word, thing) for word, thing in zip(words, came)])
                self.same(desk.say(f"papers {name}"), [f"{place} {used}" for path, place, used in papers])

    def test_origins_trees_and_ledgers_agree_with_what_was_drawn(self):
        chance = random.Random(7)
        drawn = 0
        for seed, scripts, plan in some_plans(chance, 40):
            own = machine()
            table = dealt(chance, own, seed, plan)
            desk = self.desk_with(own, plan, seed)
            rows = ledger(own, seed, plan)
            by_row = {(name, at): (place, numbers) for name, at, place, numbers in rows}
            for name in plan.names():
                path = plan.path_of(name)
                self.same((name_at(plan, path), all_paths(plan)[name]), (name, path))
                for at, (word, inner) in enumerate(plan.rows_of(name)):
                    own_path, place, used = table.papers(name)[at]
                    self.same((name, at) in by_row, word in ("draw", "take", "shuffle"))
                    if (name, at) not in by_row:
                        continue
                    stretch = (seed, path, place, used)
                    self.same(by_row[name, at], (place, tuple(numbers_of(own, stretch))))
                    for k, number in enumerate(by_row[name, at][1]):
                        self.same(origin_of(own, number), (seed, path, place + k))
                        self.same(whose(own, seed, plan, number), (name, place + k))
                        self.same(covers(own, stretch, number), True)
                        drawn += 1
                    number = by_row[name, at][1][-1]
                    self.same(drawn_by(own, seed, plan, number), (name, at, place + used - 1))
                    self.same(desk.say(f"drew {number}"), [f"{name} {at} {place + used - 1}"])
            # No two rows meet, of one hand or of two.
            stretches = [(seed, plan.path_of(name), place, len(numbers)) for name, at, place, numbers in rows]
            for k, one in enumerate(stretches):
                for other in stretches[:k]:
                    self.assertIn(meeting(own, one, other)[0], ("path", "ends"))
            self.same(sorted(family(plan, plan.root())), sorted(plan.names()))
        self.assertGreater(drawn, 300)

    def test_at_any_time_the_beginning_of_what_comes_alone(self):
        chance = random.Random(8)
        for seed, scripts, plan in some_plans(chance, 30):
            table = Table(machine(), seed, plan)
            due = {name: alone(machine(), seed, plan, name) for name in plan.names()}
            while not table.all_over():
                table.serve(chance.choice(plan.names()))
                for name in plan.names():
                    came, papers = table.came(name), table.papers(name)
                    self.same((came, papers), (due[name][0][:len(came)], due[name][1][:len(came)]))
                    self.assertTrue(not table.is_over(name) or len(came) == len(due[name][0]))

    def test_the_hands_of_a_table_are_those_of_the_deeds(self):
        chance = random.Random(9)
        for seed, scripts, plan in some_plans(chance, 30):
            table = dealt(chance, machine(), seed, plan)
            for name in plan.names():
                if table.is_there(name):
                    hand = table.hand_now(name)
                    self.same((hand.seed, hand.path), (seed, plan.path_of(name)))
                    again = read_hand(machine(), show_hand(hand))
                    self.assertTrue(same_hand(again, hand))
                    self.same(again.draws(1)[0], [machine().state(seed, hand.path, hand.place)])

    def test_texts_read_back(self):
        chance = random.Random(10)
        for seed, scripts, plan in some_plans(chance, 30):
            self.same(read_plan(show_plan(plan)).told(), plan.told())
            self.same(plan_of(*plan.told()).told(), plan.told())
        self.assertTrue(same_machine(read_machine(show_machine(machine())), machine()))
        self.assertTrue(same_machine(machine_of(machine().told()), machine()))


class Hands(Case):
    def test_a_jump_is_as_many_draws_and_two_are_one(self):
        hand = first_hand(machine(), 3)
        numbers = hand.draws(64)[0]
        for first in range(0, 64, 5):
            for second in range(0, 64 - first, 7):
                behind = hand.jumped(first).jumped(second)
                self.assertTrue(same_hand(behind, hand.jumped(first + second)))
                self.assertTrue(same_hand(behind, hand.draws(first + second)[1]))
                self.same(behind.draw()[0], numbers[first + second])

    def test_a_split_hand_goes_on_and_all_parts_joined_give_it_back(self):
        chance = random.Random(11)
        for turn in range(40):
            hand = first_hand(machine(), chance.randrange(4)).jumped(chance.randrange(20))
            for depth in range(chance.randrange(3)):
                hand = chance.choice(hand.parted(chance.randint(1, 7))[0]).jumped(chance.randrange(20))
            many = chance.randint(1, 7)
            parts, behind = hand.parted(many)
            self.same(behind.draws(20)[0], hand.draws(20)[0])
            moved = [part.jumped(chance.randrange(64)) for part in parts]
            chance.shuffle(moved)
            self.assertTrue(same_hand(joined(moved), behind))

    def test_no_two_hands_stand_at_one_state(self):
        own = Machine(1, 2, 2, 2, STEPS)
        hands = []
        for seed in range(2):
            parts, root = first_hand(own, seed).parted(3)
            hands += [root] + parts + [part for upper in parts for part in upper.parted(3)[0]]
        numbers = [number for hand in hands for number in hand.draws(4)[0]]
        self.assertEqual(len(numbers), len(set(numbers)))
        for hand in hands:
            self.same([origin_of(own, number) for number in hand.draws(4)[0]], [(hand.seed, hand.path, place) for place in range(4)])

    def test_papers_of_takings(self):
        chance = random.Random(12)
        hand = first_hand(machine(), 2)
        for shape in (Below(6), Below(70000), Shares([0, 3, 1]), Orders(4), Sets(6, 3), Pair(Below(3), Orders(3)), Rows(Sets(4, 2), 3)):
            outcome, behind, paper = taken(hand, shape)
            self.same(is_paper(machine(), shape, paper, outcome), True)
            self.same(read_paper(show_paper(paper)), paper)
            seed, path, place, numbers = paper
            at = chance.randrange(len(numbers))
            for forged in ((seed ^ 1, path, place, numbers), (seed, (0,), place, numbers), (seed, path, place + 1, numbers), (seed, path, place, numbers + numbers),
                           (seed, path, place, numbers[:at] + (numbers[at] ^ 1,) + numbers[at + 1:])):
                self.same(is_paper(machine(), shape, forged, outcome), False)
            hand = behind

    def test_shapes_are_fair_over_all_states(self):
        own = Machine(2, 2, 2, 3, STEPS)
        for words in ("below 6", "below 300", "orders 4", "sets 6 3", "pair ( orders 3 ) ( below 5 )", "rows 3 ( sets 3 1 )", "shares 2 0 5"):
            shape = read_shape(words)
            outcomes, thrown = tally(own, shape)
            per = 2 ** 9 // shape.numbers()
            self.same(outcomes, [(outcome, many * per) for outcome, many in shape.all_outcomes()])
            self.same(thrown, 2 ** 9 - per * shape.numbers())
            self.same(shape_of(shape.told()).words(), words)


class Again(Case):
    def test_the_same_question_has_an_equal_answer(self):
        chance = random.Random(13)
        for seed, scripts, plan in some_plans(chance, 10):
            for turn in range(2):
                self.same(ledger(machine(), seed, plan), ledger(machine(), seed, plan_of(scripts)))
                self.same(show_tree(plan), show_tree(plan_of(scripts)))
                for name in plan.names():
                    self.same(alone(machine(), seed, plan, name), alone(machine(), seed, plan_of(scripts), name))

    def test_what_was_handed_in_is_not_changed(self):
        chance = random.Random(14)
        for seed, scripts, plan in some_plans(chance, 10):
            before = repr(scripts)
            own = plan_of(scripts)
            told = own.told()
            dealt(chance, machine(), seed, own)
            ledger(machine(), seed, own)
            self.assertEqual(repr(scripts), before)
            self.same(own.told(), told)


if __name__ == "__main__":
    unittest.main()
