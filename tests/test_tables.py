"""Points [103] to [107]: tables, at which plans are dealt in any order."""

import random
import unittest

from helpers import Case, names_in, no_whole_numbers, paths_in, some_scripts
from splitseed.alone import alone
from splitseed.chains import Back, Chain
from splitseed.errors import Beyond, NoDepth, NoHand, NoHolder, NoParts, NoRow, NoSeed, SeedError, TooWide, Unknown
from splitseed.hands import Hand, first_hand, joined, same_hand
from splitseed.machines import Machine
from splitseed.plans import plan_of
from splitseed.plantext import read_plan
from splitseed.steps import Cross, Fold, Lean, Plus, Times, Turn
from splitseed.tables import Table
from splitseed.words import own_words

STEPS = [Times(77), Fold(3), Plus(11), Back(Chain([Fold(2), Turn(3)])), Lean(5), Cross(45), Times(13)]
HOLDERS = ("house", "ann", "bob", "a", "cy")
TEXT = (
    "hand a\ndraw 2\npart b c\ntake below 6\njoin c b\npart d\ndraw 1\nhand b\nshuffle 3\npart e f\ndraw 2\nhand c\njump 3\ndraw 1\n"
    "hand e\ndraw 1\ndraw 1\ndraw 1\nserve a b a c"
)


def machine():
    """Four seeds, seven parts, depth 3, 64 places: the width 17."""
    return Machine(2, 3, 3, 6, STEPS)


def unknown_names():
    return [None, True, 5, "", "zz", "A", "house", [], ["a"], ("a",), {}, {"a": 1}, Plus(1), machine()]


def no_holders():
    return [None, True, 5, "", "A", "a b", "abcdefghi", [], ["house"], ("ann",), {}, Plus(1)] + [w for w in own_words() if w != "house"]


class Model:
    """A table by the words of the document; what comes of the rows is asked of each hand alone."""

    def __init__(self, own, seed, plan, scripts):
        self.names = names_in(scripts)
        self.rows = {name: list(dict(scripts).get(name, [])) for name in self.names}
        self.alone = {name: alone(own, seed, plan, name) for name in self.names}
        self.come, self.gone, self.done = [self.names[0]], [], {name: 0 for name in self.names}
        self.holders = {self.names[0]: "house"}
        self.hands = {self.names[0]: first_hand(own, seed)}

    def there(self, name):
        return name in self.come and name not in self.gone

    def over(self, name):
        return name in self.come and self.done[name] == len(self.rows[name])

    def can(self, name):
        if not self.there(name) or self.over(name):
            return False
        word, inner = self.rows[name][self.done[name]]
        return word != "join" or all(self.over(part) for part in inner)

    def serve(self, name):
        if not self.can(name):
            return False
        word, inner = self.rows[name][self.done[name]]
        if word == "part":
            parts, self.hands[name] = self.hands[name].parted(len(inner))
            for part, hand in zip(inner, parts):
                self.come.append(part)
                self.holders[part] = self.holders[name]
                self.hands[part] = hand
        elif word == "join":
            self.gone += inner
        else:
            used = self.alone[name][1][self.done[name]][2]
            self.hands[name] = self.hands[name].jumped(used)
        self.done[name] += 1
        return True

    def serve_holder(self, holder):
        for name in self.names:
            if self.there(name) and self.holders[name] == holder and self.can(name):
                self.serve(name)
                return name
        return None

    def told(self, name):
        """What a table should tell of a hand."""
        done, (came, papers) = self.done[name], self.alone[name]
        found = [self.there(name), self.over(name), came[:done], papers[:done]]
        return found + ([self.hands[name].told(), self.holders[name]] if self.there(name) else [])


def told_by(table, name):
    """All that a table tells of a hand."""
    found = [table.is_there(name), table.is_over(name), table.came(name), table.papers(name)]
    return found + ([table.hand_now(name).told(), table.holder_of(name)] if table.is_there(name) else [])


def all_told(table, names):
    return [told_by(table, name) for name in names] + [table.all_over()]


def some_tables(chance, many):
    """Tables of plans by chance, each with its seed, its plan, its scripts and its model; those refused are left out."""
    for turn in range(many):
        scripts = some_scripts(chance, hands=10, rows=7)
        served = chance.choices(names_in(scripts), k=chance.randint(0, 8))
        plan = plan_of(scripts, served)
        own = machine()
        seed = chance.randrange(4)
        try:
            table = Table(own, seed, plan)
        except SeedError:
            continue
        yield own, seed, plan, scripts, table, Model(own, seed, plan, scripts)


class Serving(Case):
    def check(self, table, model):
        self.same(all_told(table, model.names), [model.told(name) for name in model.names] + [all(map(model.over, model.names))])

    def test_single_hands_in_many_orders(self):
        chance = random.Random(103)
        seen = {"done": 0, "not there": 0, "over": 0, "waits": 0, "joined": 0, "out": 0}
        for own, seed, plan, scripts, table, model in some_tables(chance, 120):
            self.check(table, model)
            for turn in range(60):
                name = chance.choice(model.names)
                can = model.can(name)
                seen["done"] += can
                seen["not there"] += name not in model.come
                seen["joined"] += name in model.gone
                seen["over"] += model.over(name)
                seen["waits"] += model.there(name) and not model.over(name) and not can
                self.same(table.serve(name), model.serve(name))
                self.check(table, model)
            while not table.all_over():
                for name in chance.sample(model.names, len(model.names)):
                    self.same(table.serve(name), model.serve(name))
            self.check(table, model)
            for name in model.names:
                self.same((table.came(name), table.papers(name)), alone(own, seed, plan, name))
                self.same(table.serve(name), False)
            seen["out"] += 1
        self.assertTrue(all(many > 20 for many in seen.values()), seen)

    def test_all_deeds_in_many_orders(self):
        chance = random.Random(105)
        seen = {"dealt": 0, "by holders": 0, "no row": 0, "handed on": 0}
        for own, seed, plan, scripts, table, model in some_tables(chance, 120):
            for turn in range(30):
                deed = chance.randrange(4)
                if deed == 0:
                    names = chance.choices(model.names, k=chance.randint(0, 5))
                    told = chance.choice((names, tuple(names)))
                    self.same(table.deal(told), sum([model.serve(name) for name in names]))
                    seen["dealt"] += 1
                elif deed == 1:
                    holder = chance.choice(HOLDERS)
                    found = table.serve_holder(holder)
                    self.same(found, model.serve_holder(holder))
                    seen["no row" if found is None else "by holders"] += 1
                elif deed == 2:
                    name, holder = chance.choice([name for name in model.names if model.there(name)]), chance.choice(HOLDERS)
                    self.same(table.hand_on(name, holder), None)
                    model.holders[name] = holder
                    seen["handed on"] += 1
                else:
                    self.same(table.deal(), sum([model.serve(name) for name in plan.served()]))
                self.check(table, model)
            left = sum(len(model.rows[name]) - model.done[name] for name in model.names)
            self.same(table.serve_out(), left)
            self.same(table.all_over(), True)
            self.same(table.serve_out(), 0)
            for name in model.names:
                self.same((table.came(name), table.papers(name)), alone(own, seed, plan, name))
        self.assertTrue(all(many > 20 for many in seen.values()), seen)

    def test_draws_are_the_states_of_path_and_places(self):
        chance = random.Random(107)
        for own, seed, plan, scripts, table, model in some_tables(chance, 40):
            table.serve_out()
            states = []
            for name in model.names:
                path = paths_in(scripts)[name]
                for (word, inner), came, paper in zip(model.rows[name], table.came(name), table.papers(name)):
                    self.same(paper[0], path)
                    places = [own.state(seed, path, paper[1] + k) for k in range(paper[2])]
                    if word == "draw":
                        self.same(came, tuple(places))
                    if word in ("draw", "take", "shuffle"):
                        states += places
            self.assertEqual(len(states), len(set(states)))


class Deeds(Case):
    def test_a_table_row_by_row(self):
        own = machine()
        plan = read_plan("hand a\npart b c\ndraw 2\njoin c b\npart d\nhand c\ndraw 1\njump 3")
        table = Table(own, 1, plan)
        self.same([table.is_there(name) for name in "abcd"], [True, False, False, False])
        self.same([table.is_over(name) for name in "abcd"], [False, False, False, False])
        self.same([table.serve(name) for name in "bcd"], [False, False, False])
        self.same((table.came("a"), table.papers("a"), table.came("c"), table.papers("c")), ([], [], [], []))
        self.same(table.serve("a"), True)
        self.same([table.is_there(name) for name in "abcd"], [True, True, True, False])
        self.same([table.is_over(name) for name in "abcd"], [False, True, False, False])
        self.same(table.came("a"), [("b", "c")])
        self.same(table.papers("a"), [((), 0, 0)])
        self.same(table.serve("b"), False)
        self.same(table.serve("a"), True)
        self.same(table.came("a")[1], (own.state(1, (), 0), own.state(1, (), 1)))
        self.same(table.serve("a"), False)
        self.same(table.serve("c"), True)
        self.same(table.came("c"), [(own.state(1, (1,), 0),)])
        self.same(table.serve("a"), False)
        self.same(table.serve("c"), True)
        self.same([table.is_over(name) for name in "abcd"], [False, True, True, False])
        self.same(table.hand_now("c").told(), (1, (1,), 4, 0, ((0, 0, 2),)))
        self.same(table.serve("a"), True)
        self.same([table.is_there(name) for name in "abcd"], [True, False, False, False])
        self.same([table.is_over(name) for name in "abcd"], [False, True, True, False])
        self.same(table.hand_now("a").told(), (1, (), 2, 2, ()))
        self.same(table.all_over(), False)
        self.same(table.serve("a"), True)
        self.same(table.all_over(), True)
        self.same(table.hand_now("a").told(), (1, (), 2, 3, ()))
        self.same(table.hand_now("d").told(), (1, (2,), 0, 0, ((2, 2, 1),)))
        self.same(table.papers("a"), [((), 0, 0), ((), 0, 2), ((), 2, 0), ((), 2, 0)])
        self.same(table.came("a")[2:], [("c", "b"), ("d",)])
        self.same((table.came("c")[1], table.papers("c")), (4, [((1,), 0, 1), ((1,), 1, 3)]))
        self.refused(NoHand, ["b"], table.hand_now, "b")

    def test_a_plan_without_rows_is_over_at_once(self):
        table = Table(machine(), 0, read_plan("hand a"))
        self.same((table.is_there("a"), table.is_over("a"), table.all_over(), table.serve("a")), (True, True, True, False))
        self.same((table.came("a"), table.papers("a"), table.serve_out(), table.deal(), table.deal(["a", "a"])), ([], [], 0, 0, 0))

    def test_a_hand_below_a_joined_one_goes_on(self):
        own = machine()
        table = Table(own, 2, read_plan("hand a\npart b\njoin b\nhand b\npart c\nhand c\ndraw 2\ndraw 1"))
        self.same([table.serve(name) for name in "aba"], [True, True, True])
        self.same([table.is_there(name) for name in "abc"], [True, False, True])
        self.same([table.serve(name) for name in "bcc"], [False, True, True])
        self.same(table.came("c"), [(own.state(2, (0, 0), 0), own.state(2, (0, 0), 1)), (own.state(2, (0, 0), 2),)])
        self.same(table.all_over(), True)

    def test_the_hand_as_it_stands_now(self):
        own = machine()
        table = Table(own, 3, read_plan("hand a\ndraw 2\npart b c\njoin b c\ntake below 600\npart d e\nhand e\ndraw 1\npart f"))
        hand = first_hand(own, 3)
        self.assertTrue(same_hand(table.hand_now("a"), hand))
        table.deal(["a", "a"])
        parts, hand = hand.jumped(2).parted(2)
        self.assertIsInstance(table.hand_now("a"), Hand)
        for name, wanted in (("a", hand), ("b", parts[0]), ("c", parts[1])):
            self.assertTrue(same_hand(table.hand_now(name), wanted))
        # All parts joined as hands give back the hand as it stood behind the splitting; a join row gives none back.
        self.assertTrue(same_hand(joined([table.hand_now("c"), table.hand_now("b")]), hand))
        table.deal(["a", "a", "a"])
        used = table.papers("a")[3][2]
        parts, hand = hand.jumped(used).parted(2)
        for name, wanted in (("a", hand), ("d", parts[0]), ("e", parts[1])):
            self.assertTrue(same_hand(table.hand_now(name), wanted))
        self.same(table.hand_now("e").told(), (3, (3,), 0, 0, ((2 + used, 2, 2),)))
        # A hand that is told does its own deeds, and the table knows nothing of them.
        table.hand_now("a").draws(5)
        self.assertTrue(same_hand(table.hand_now("a"), hand))
        table.serve_out()
        self.same(table.hand_now("f").told(), (3, (3, 0), 0, 0, ((2 + used, 2, 2), (1, 0, 1))))
        self.same(table.hand_now("e").told(), (3, (3,), 1, 1, ((2 + used, 2, 2),)))
        for name in "bc":
            self.refused(NoHand, [name], table.hand_now, name)

    def test_two_tables_of_one_plan_side_by_side(self):
        own = machine()
        plan = read_plan(TEXT)
        one, other, third = Table(own, 1, plan), Table(own, 1, plan), Table(own, 2, plan)
        before = all_told(other, plan.names())
        one.serve_out()
        one.hand_on("a", "ann")
        self.same(all_told(other, plan.names()), before)
        other.deal(["a", "a", "c", "b"])
        other.serve_out()
        third.serve_out()
        for name in plan.names():
            self.same((one.came(name), one.papers(name)), (other.came(name), other.papers(name)))
        self.assertNotEqual(one.came("a"), third.came("a"))
        self.same(other.holder_of("a"), "house")

    def test_what_is_told_may_be_changed(self):
        plan = read_plan(TEXT)
        table = Table(machine(), 1, plan)
        table.deal(["a", "a", "b", "b"])
        before = all_told(table, plan.names())
        for name in plan.names():
            for call in (table.came, table.papers):
                call(name).append(None)
                call(name).clear()
        self.same(all_told(table, plan.names()), before)
        table.serve_out()
        for name in plan.names():
            self.same((table.came(name), table.papers(name)), alone(machine(), 1, plan, name))


class Holders(Case):
    def test_holders_of_parts(self):
        table = Table(machine(), 0, read_plan("hand a\npart b\npart c\npart d\nhand b\npart e f"))
        self.same(table.holder_of("a"), "house")
        table.serve("a")
        self.same(table.hand_on("a", "ann"), None)
        table.serve("a")
        self.same([table.holder_of(name) for name in "abc"], ["ann", "house", "ann"])
        table.hand_on("b", "bob")
        table.hand_on("a", "house")
        table.hand_on("a", "house")
        table.deal(["a", "b"])
        self.same([table.holder_of(name) for name in "abcdef"], ["house", "bob", "ann", "house", "bob", "bob"])
        table.hand_on("e", "e")
        self.same(table.holder_of("e"), "e")

    def test_a_holder_is_served(self):
        table = Table(machine(), 0, read_plan("hand a\npart b c\njoin b c\ndraw 1\nhand c\ndraw 1\nhand b\ndraw 1\ndraw 1"))
        self.same(table.serve_holder("ann"), None)
        self.same(table.serve_holder("house"), "a")
        # The next row of a waits, so the next hand of the holder is served.
        self.same(table.serve_holder("house"), "b")
        table.hand_on("b", "ann")
        self.same(table.serve_holder("house"), "c")
        self.same(table.serve_holder("house"), None)
        self.same(table.serve_holder("ann"), "b")
        self.same(table.serve_holder("ann"), None)
        table.hand_on("a", "ann")
        self.same(table.serve_holder("house"), None)
        self.same(table.serve_holder("ann"), "a")
        self.same([table.is_there(name) for name in "abc"], [True, False, False])
        self.same(table.serve_holder("ann"), "a")
        self.same(table.serve_holder("ann"), None)

    def test_who_holds_a_hand_changes_nothing_of_its_draws(self):
        plan = read_plan(TEXT)
        table = Table(machine(), 1, plan)
        chance = random.Random(5)
        while not table.all_over():
            for name in plan.names():
                if table.is_there(name):
                    table.hand_on(name, chance.choice(HOLDERS))
            table.serve_holder(chance.choice(HOLDERS))
        for name in plan.names():
            self.same((table.came(name), table.papers(name)), alone(machine(), 1, plan, name))


class Dealing(Case):
    def test_names_dealt_several_times(self):
        table = Table(machine(), 0, read_plan("hand a\ndraw 1\npart b\ndraw 1\nhand b\ndraw 2\nserve a a b a b b a"))
        self.same(table.deal(["b", "b"]), 0)
        self.same(table.deal([]), 0)
        self.same(table.deal(()), 0)
        self.same(table.deal(["a", "b", "a"]), 2)
        self.same(table.deal(), 2)
        self.same(table.deal(None), 0)
        self.same(table.all_over(), True)

    def test_the_names_served_by_the_plan(self):
        for deal in (lambda table: table.deal(), lambda table: table.deal(None)):
            table = Table(machine(), 0, read_plan("hand a\ndraw 1\npart b\ndraw 1\nhand b\ndraw 2\nserve a b a b"))
            self.same(deal(table), 3)
            self.same((table.is_over("a"), table.is_over("b")), (False, True))
            self.same(deal(table), 1)
        table = Table(machine(), 0, read_plan("hand a\ndraw 1"))
        self.same(table.deal(), 0)
        self.same(table.came("a"), [])

    def test_names_are_not_changed(self):
        names = ["a", "b", "a"]
        Table(machine(), 0, read_plan("hand a\ndraw 1\npart b\ndraw 1")).deal(names)
        self.same(names, ["a", "b", "a"])

    def test_served_out(self):
        table = Table(machine(), 0, read_plan(TEXT))
        self.same(table.serve_out(), 14)
        self.same(table.all_over(), True)
        table = Table(machine(), 0, read_plan(TEXT))
        table.deal(["a", "a", "b"])
        self.same(table.serve_out(), 11)


class Refusing(Case):
    def test_seeds(self):
        plan = read_plan("hand a\ndraw 100\npart b")
        for seed in [-1, 4, 10 ** 59] + no_whole_numbers():
            self.refused(NoSeed, [seed], Table, machine(), seed, plan)

    def test_refused_ahead_hand_by_hand(self):
        own = Machine(2, 1, 1, 3, STEPS)
        good = "hand a\npart b\ndraw 8"
        Table(own, 0, read_plan(good + "\nhand b\ndraw 8"))
        self.refused(Beyond, ["a", 0], Table, own, 0, read_plan("hand a\ndraw 9"))
        self.refused(Beyond, ["b", 8], Table, own, 0, read_plan(good + "\nhand b\ndraw 8\njump 1"))
        self.refused(NoDepth, ["b", 1], Table, own, 0, read_plan(good + "\nhand b\ndraw 8\npart c\njump 1"))
        self.refused(NoParts, ["a", 2], Table, own, 0, read_plan(good + "\npart d\nhand b\ndraw 9"))
        self.refused(NoParts, ["a", 0], Table, own, 0, read_plan("hand a\npart b c\nhand c\ndraw 9"))
        self.refused(TooWide, [65], Table, own, 0, read_plan(good + "\nhand b\ndraw 8\ntake below 65\njump 1"))
        self.refused(NoDepth, ["a", 1], Table, Machine(3, 1, 0, 3), 0, read_plan("hand a\ndraw 8\npart b\nhand b\ntake below 2000"))

    def test_the_order_is_that_of_names_and_not_of_scripts(self):
        own = Machine(2, 2, 1, 3, STEPS)
        plan = read_plan("hand a\npart b c\nhand c\ndraw 9\nhand b\njump 9")
        self.refused(Beyond, ["b", 0], Table, own, 0, plan)
        plan = read_plan("hand a\npart b c\nhand c\ntake below 1000\nhand b\njump 8")
        self.refused(TooWide, [1000], Table, own, 0, plan)
        plan = read_plan("hand a\npart b c\nhand c\ntake below 1000\nhand b\njump 8\npart d")
        self.refused(NoDepth, ["b", 1], Table, own, 0, plan)

    def test_plans_by_chance_are_refused_as_the_first_hand_that_is(self):
        chance = random.Random(102)
        seen = {"made": 0, NoDepth: 0, NoParts: 0, TooWide: 0, Beyond: 0}
        for turn in range(400):
            scripts = some_scripts(chance, hands=8, rows=8)
            plan = plan_of(scripts)
            own = chance.choice((Machine(2, 3, 3, 5, STEPS), Machine(0, 2, 2, 5, STEPS), Machine(0, 3, 2, 3, STEPS), Machine(0, 2, 3, 4)))
            wanted = None
            for name in plan.names():
                try:
                    alone(own, 0, plan, name)
                except SeedError as refusal:
                    wanted = refusal
                    break
            if wanted is None:
                Table(own, 0, plan)
                seen["made"] += 1
            else:
                fields = [getattr(wanted, field) for field in ("total", "name", "at", "place") if hasattr(wanted, field)]
                self.refused(type(wanted), fields, Table, own, 0, plan)
                seen[type(wanted)] += 1
        self.assertTrue(all(many >= 5 for many in seen.values()), seen)

    def test_unknown_names(self):
        table = Table(machine(), 0, read_plan(TEXT))
        before = all_told(table, "abcdef")
        for thing in unknown_names():
            for call in (table.serve, table.is_there, table.is_over, table.came, table.papers, table.hand_now, table.holder_of):
                self.refused(Unknown, [thing], call, thing)
            self.refused(Unknown, [thing], table.hand_on, thing, "ann")
            self.refused(Unknown, [thing], table.hand_on, thing, None)
            self.refused(Unknown, [thing], table.deal, [thing])
            self.refused(Unknown, [thing], table.deal, ["a", thing, None])
            self.refused(Unknown, [thing], table.deal, ("a", "a", "b", thing))
        self.same(all_told(table, "abcdef"), before)

    def test_hands_that_are_not_there(self):
        plan = read_plan("hand a\npart b\njoin b\npart c")
        table = Table(machine(), 0, plan)
        table.deal(["a", "a"])
        before = all_told(table, "abc")
        for name in "bc":
            self.refused(NoHand, [name], table.hand_now, name)
            self.refused(NoHand, [name], table.holder_of, name)
            self.refused(NoHand, [name], table.hand_on, name, "ann")
            self.refused(NoHand, [name], table.hand_on, name, None)
            self.same(table.serve(name), False)
        self.same(all_told(table, "abc"), before)
        table.serve("a")
        self.same(table.holder_of("c"), "house")

    def test_no_holders(self):
        table = Table(machine(), 0, read_plan("hand a\ndraw 1\ndraw 1"))
        before = all_told(table, "a")
        for thing in no_holders():
            self.refused(NoHolder, [thing], table.hand_on, "a", thing)
            self.refused(NoHolder, [thing], table.serve_holder, thing)
        self.same(all_told(table, "a"), before)
        for holder in ("house", "a", "zzzzzzzz"):
            table.hand_on("a", holder)
            self.same(table.holder_of("a"), holder)

    def test_no_row_of_names(self):
        table = Table(machine(), 0, read_plan("hand a\ndraw 1\nserve a"))
        for thing in (True, False, 0, 5, "", "a", {}, {"a": 1}, Plus(1)):
            self.refused(NoRow, [thing], table.deal, thing)
        self.same(table.came("a"), [])


if __name__ == "__main__":
    unittest.main()
