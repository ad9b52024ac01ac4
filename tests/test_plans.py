"""Points [91] to [95]: plans, what they are made of and what they tell."""

import random
import unittest

from helpers import Case, NAMES, SOME_SHAPES, names_in, no_whole_numbers, paths_in, some_scripts
from splitseed.errors import NoName, NoPlan, NoRow, NoShape, TooWide, Twice, Unknown
from splitseed.hands import first_hand
from splitseed.machines import Machine
from splitseed.plans import Plan, plan_of
from splitseed.shapes import Below
from splitseed.steps import Plus
from splitseed.words import own_words

MANY_NAMES = tuple(NAMES[k] for k in range(1, 33))


def no_names():
    """Things that are no names, new ones each time."""
    found = [None, True, 5, "", "A", "a b", "a1", "nineletters"[:9], "a\n", " a", [], ["a"], (), ("a",), {}, {"a": 1}, Plus(1)]
    return found + own_words()


def other_than(name):
    """Things that are no name of a plan whose hands are called otherwise."""
    return no_names() + [name, name + "x", name.upper()]


def no_rows():
    """Things without the form of a row, new ones each time."""
    found = [None, True, 5, "draw", "draw 3", [], (), {}, ("draw",), ("draw", 3, 3), ["draw", 3], ("Draw", 3), ("draws", 3)]
    found += [("", 3), (None, 3), (3, "draw"), (True, 3), (["draw"], 3), (("draw",), 3), ({}, 3), ("below", 6), ("hand", "a")]
    found += [("serve", ("a",)), ("plus", 5), (Plus(5), 5), ("take",), ("take", ("below", 6), 1), ("TAKE", ("below", 6))]
    for word, least, greatest in (("draw", 1, 100), ("shuffle", 2, 30), ("jump", 0, 65536)):
        found += [(word, thing) for thing in [least - 1, greatest + 1, -5, 10 ** 59, str(least)] + no_whole_numbers()]
    for word in ("part", "join"):
        found += [(word,), (word, "b", "c"), (word, ("b",), ("c",))]
        found += [(word, thing) for thing in (None, True, 1, "b", "bc", ["b"], [], {}, {"b": 1}, (), MANY_NAMES, Plus(1))]
    return found


class Forms(Case):
    def test_rows_at_their_ends(self):
        for row in (("draw", 1), ("draw", 100), ("shuffle", 2), ("shuffle", 30), ("jump", 0), ("jump", 65536)):
            self.same(plan_of([("a", [row])]).rows_of("a"), [row])
        one, most = ("b",), MANY_NAMES[:31]
        for names in (one, most):
            self.same(plan_of([("a", [("part", names), ("join", names)])]).rows_of("a"), [("part", names), ("join", names)])
        self.assertEqual(len(plan_of([("a", [("part", most)])]).names()), 32)

    def test_rows_put_otherwise(self):
        good = [("draw", 3), ("part", ("b",))]
        for row in no_rows():
            for rows in ([row], (row,), good + [row], [row] + good):
                self.refused(NoPlan, [0], plan_of, [("a", rows)])
                self.refused(NoPlan, [1], plan_of, [("a", good), ("b", rows)])
                self.refused(NoPlan, [2], plan_of, (("a", good), ("b", []), ("a", rows), None))

    def test_scripts_put_otherwise(self):
        good = ("a", [("draw", 3), ("part", ("b", "c"))])
        wrong = [None, True, 5, "a", "ab", [], (), {}, ["a", []], ("a",), ("a", [], []), ("a", None), ("a", "draw"), ("a", {}), ("a", 5)]
        wrong += [("a", ("draw", 3)), ("a", [["draw", 3]]), ("a", [[("draw", 3)]]), ([], "a"), ("a", True), plan_of([good])]
        for script in wrong:
            self.refused(NoPlan, [0], plan_of, [script])
            self.refused(NoPlan, [1], plan_of, [good, script])
            self.refused(NoPlan, [1], plan_of, [good, script, None])
            self.refused(NoPlan, [2], plan_of, (good, ("b", ()), script))

    def test_no_scripts(self):
        for scripts in (None, True, 0, "", "ab", [], (), {}, {0: ("a", [])}, Plus(1), plan_of([("a", [])])):
            self.refused(NoPlan, [0], plan_of, scripts)
            self.refused(NoPlan, [0], plan_of, scripts, 5)

    def test_any_things_in_the_form(self):
        # They have the form, so the refusal is a later one, by what they are.
        for thing in no_names():
            self.refused(NoName, [thing], plan_of, [(thing, [])])
            self.refused(NoName, [thing], plan_of, [("a", [("part", (thing,))])])
            row = ("join", (thing,))
            self.refused(NoRow, [row], plan_of, [("a", [("part", ("b",)), row])])
            shape = ("take", thing)
            self.refused(NoShape, [thing], plan_of, [("a", [shape])])

    def test_lists_and_tuples(self):
        rows = [("part", ("b",)), ("draw", 1)]
        wanted = ((("a", tuple(rows)), ("b", ())), ("b", "b"))
        for kind in (list, tuple):
            for inner in (list, tuple):
                self.same(plan_of(kind([("a", inner(rows)), ("b", inner([]))]), kind(["b", "b"])).told(), wanted)


class Names(Case):
    def test_titles(self):
        row = ("part", ("b", "c"))
        for thing in no_names():
            self.refused(NoName, [thing], plan_of, [(thing, [row])])
            self.refused(NoName, [thing], plan_of, [("a", [row]), (thing, [])])
            self.refused(NoName, [thing], plan_of, [("a", [row]), ("b", []), (thing, [("part", (None,))])])
        self.refused(Twice, ["a"], plan_of, [("a", [row]), ("a", [])])
        self.refused(Twice, ["a"], plan_of, [("a", []), ("a", [])])
        self.refused(Twice, ["b"], plan_of, [("a", [row]), ("b", []), ("c", []), ("b", [])])
        self.refused(Unknown, ["d"], plan_of, [("a", [row]), ("d", [])])
        self.refused(Unknown, ["b"], plan_of, [("a", []), ("b", [])])
        # A part row behind doesn't help, nor one in the script itself, nor names of a join or served.
        self.refused(Unknown, ["d"], plan_of, [("a", [row]), ("d", []), ("b", [("part", ("d",))])])
        self.refused(Unknown, ["d"], plan_of, [("a", [row]), ("d", [("part", ("d",))]), ("b", [])], ["d"])
        self.same(plan_of([("a", [row]), ("b", [("part", ("d",))]), ("d", []), ("c", [])]).names(), ["a", "b", "c", "d"])

    def test_longest_and_shortest_names(self):
        for name in ("z", "abcdefgh", "hands", "draws", "rowsx"):
            self.same(plan_of([(name, [("part", ("b",))])]).names(), [name, "b"])
        self.refused(NoName, ["abcdefghi"], plan_of, [("abcdefghi", [])])

    def test_parts(self):
        for thing in no_names():
            for names in ((thing,), ("b", thing), (thing, "b"), ("b", thing, "b")):
                self.refused(NoName, [thing], plan_of, [("a", [("part", names)])])
        self.refused(Twice, ["a"], plan_of, [("a", [("part", ("a",))])])
        self.refused(Twice, ["a"], plan_of, [("a", [("part", ("b", "a"))])])
        self.refused(Twice, ["b"], plan_of, [("a", [("part", ("b", "b"))])])
        self.refused(Twice, ["b"], plan_of, [("a", [("part", ("b", "c", "b", None))])])
        self.refused(Twice, ["b"], plan_of, [("a", [("part", ("b",)), ("part", ("c", "b"))])])
        self.refused(Twice, ["b"], plan_of, [("a", [("part", ("b",)), ("join", ("b",)), ("part", ("b",))])])
        first = ("a", [("part", ("b", "c"))])
        self.refused(Twice, ["a"], plan_of, [first, ("b", [("part", ("d", "a"))])])
        self.refused(Twice, ["b"], plan_of, [first, ("b", [("part", ("b",))])])
        self.refused(Twice, ["c"], plan_of, [first, ("b", [("part", ("c",))])])
        self.refused(Twice, ["d"], plan_of, [first, ("b", [("part", ("d",))]), ("c", [("part", ("e", "d"))])])

    def test_the_first_name_that_is_wrong(self):
        self.refused(Twice, ["b"], plan_of, [("a", [("part", ("b", "b", None))])])
        self.refused(NoName, [None], plan_of, [("a", [("part", ("b", None, "b"))])])


class Joins(Case):
    def test_joins_in_any_order(self):
        parts = [("part", ("b", "c", "d")), ("draw", 1), ("part", ("e", "f"))]
        for first in (("b", "c", "d"), ("d", "b", "c"), ("c", "b", "d")):
            for second in (("e", "f"), ("f", "e")):
                for rows in ([("join", first), ("join", second)], [("join", second), ("jump", 0), ("join", first)]):
                    self.same(plan_of([("a", parts + rows)]).rows_of("a"), parts + rows)

    def test_joins_that_join_no_parts(self):
        parts = [("part", ("b", "c", "d")), ("part", ("e", "f"))]
        wrong = [("b", "c"), ("b",), ("b", "c", "d", "e"), ("b", "c", "d", "e", "f"), ("b", "c", "d", "d"), ("b", "b", "c"), ("b", "c", "c")]
        wrong += [("e",), ("e", "e"), ("f", "b"), ("a",), ("g",), ("e", "g"), ("E", "f"), ("e", "a"), (None,), ("e", None), ("e", ["f"])]
        wrong += [("e", {}), ("e", ("f",)), (True, "e", "f"), ("e", "f", 5), (Plus(1), "f"), ("ef",), ("e f",), ("b", "c", "d", "b", "c", "d")]
        for names in wrong:
            row = ("join", names)
            self.refused(NoRow, [row], plan_of, [("a", parts + [row])])
            self.refused(NoRow, [row], plan_of, [("a", parts + [row, ("take", None)])])

    def test_joins_ahead_of_their_part_row(self):
        row = ("join", ("b",))
        self.refused(NoRow, [row], plan_of, [("a", [row])])
        self.refused(NoRow, [row], plan_of, [("a", [row, ("part", ("b",))])])
        self.refused(NoRow, [row], plan_of, [("a", [("part", ("c",)), row, ("part", ("b",))])])

    def test_joins_said_a_second_time(self):
        for first, second in ((("b", "c"), ("b", "c")), (("b", "c"), ("c", "b")), (("c", "b"), ("b", "c"))):
            row = ("join", second)
            self.refused(NoRow, [row], plan_of, [("a", [("part", ("b", "c")), ("join", first), ("part", ("d",)), row])])

    def test_parts_of_another_script(self):
        row = ("join", ("b", "c"))
        first = ("a", [("part", ("b", "c"))])
        self.refused(NoRow, [row], plan_of, [first, ("b", [row])])
        other = ("join", ("d",))
        self.refused(NoRow, [other], plan_of, [("a", [("part", ("b",))]), ("b", [("part", ("d",))]), ("d", [other])])


class Shapes(Case):
    def test_every_shape(self):
        for told in SOME_SHAPES:
            self.same(plan_of([("a", [("take", told)])]).rows_of("a"), [("take", told)])

    def test_no_shapes(self):
        for thing in (None, True, 6, "below 6", [], (), {}, ["below", 6], ("below", 0), ("below", True), ("below",), ("shares", [1]),
                      ("shares", (0,)), ("orders", 21), ("sets", 2, 3), ("pair", ("below", 6), None), Below(6), ("draw", 3)):
            self.refused(NoShape, [thing], plan_of, [("a", [("take", thing)])])
        self.refused(NoShape, ["x"], plan_of, [("a", [("draw", 1), ("take", "x"), ("part", (None,))])])

    def test_shapes_that_are_too_wide(self):
        self.refused(TooWide, [2 ** 64 + 1], plan_of, [("a", [("take", ("below", 2 ** 64 + 1))])])
        self.refused(TooWide, [2 ** 66], plan_of, [("a", [("take", ("rows", ("below", 2 ** 11), 6))])])
        self.same(plan_of([("a", [("take", ("below", 2 ** 64))])]).rows_of("a"), [("take", ("below", 2 ** 64))])


class Served(Case):
    def test_served(self):
        scripts = [("a", [("part", ("b", "c"))]), ("c", [])]
        self.same(plan_of(scripts).served(), [])
        self.same(plan_of(scripts, None).served(), [])
        for names in ([], ["a"], ["c", "b", "a", "b", "b"]):
            self.same(plan_of(scripts, names).served(), names)
            self.same(plan_of(scripts, tuple(names)).served(), names)

    def test_what_is_no_row_of_names(self):
        for scripts in ([("a", [])], [("a", [("part", ("b", "c"))]), ("c", []), ("b", [])]):
            for thing in (True, False, 0, 5, "", "a", {}, {"a": 1}, Plus(1), plan_of(scripts)):
                self.refused(NoPlan, [len(scripts)], plan_of, scripts, thing)

    def test_names_of_no_hand(self):
        scripts = [("a", [("part", ("b", "c"))]), ("c", [])]
        for thing in other_than("d"):
            for names in ([thing], ["a", thing], ("b", "c", thing, None), (thing, "d", 5)):
                self.refused(Unknown, [thing], plan_of, scripts, names)


class FirstDue(Case):
    """Which refusal is due first where two are: each list is due in its order."""

    def test_forms_ahead_of_all_else(self):
        self.refused(NoPlan, [1], plan_of, [(None, [("take", None)]), ("a", [("draw", 0)])], 5)
        self.refused(NoPlan, [0], plan_of, [("a", [("take", None), ("jump", -1)]), None], 5)

    def test_name_by_name_and_row_by_row(self):
        bad_shape, wide = ("take", None), ("take", ("below", 2 ** 65))
        bad_part, bad_join = ("part", ("b", "b")), ("join", ("x",))
        self.refused(NoName, ["A"], plan_of, [("A", [bad_shape])], ["x"])
        self.refused(NoShape, [None], plan_of, [("a", [bad_shape, wide, bad_part, bad_join]), ("A", [])], ["x"])
        self.refused(TooWide, [2 ** 65], plan_of, [("a", [wide, bad_part, bad_join, bad_shape]), ("A", [])], ["x"])
        self.refused(Twice, ["b"], plan_of, [("a", [bad_part, bad_join, bad_shape, wide]), ("A", [])], ["x"])
        self.refused(NoRow, [bad_join], plan_of, [("a", [bad_join, bad_shape, wide, bad_part]), ("A", [])], ["x"])
        self.refused(NoName, ["A"], plan_of, [("a", []), ("A", [bad_shape])], ["x"])
        self.refused(Twice, ["a"], plan_of, [("a", []), ("a", [bad_shape])], ["x"])
        self.refused(Unknown, ["d"], plan_of, [("a", []), ("d", [bad_shape])], ["x"])
        self.refused(NoShape, [None], plan_of, [("a", [("part", ("d",))]), ("d", [bad_shape]), ("A", [])], 5)
        self.refused(NoPlan, [1], plan_of, [("a", [])], "x")
        self.refused(Unknown, ["x"], plan_of, [("a", [])], ["x"])


class Telling(Case):
    def test_plans_by_chance(self):
        chance = random.Random(91)
        seen = {"hands": 0, "joins": 0, "deep": 0, "without a script": 0}
        for turn in range(200):
            scripts = some_scripts(chance)
            names, paths = names_in(scripts), paths_in(scripts)
            served = chance.choices(names, k=chance.randint(0, 6))
            plan = plan_of(scripts, served)
            self.assertIs(type(plan), Plan)
            self.same(plan.root(), scripts[0][0])
            self.same(plan.names(), names)
            self.same(plan.served(), served)
            rows = dict(scripts)
            for name in names:
                self.same(plan.rows_of(name), list(rows.get(name, [])))
                self.same(plan.path_of(name), paths[name])
                uppers = [upper for upper, own in scripts for word, inner in own if word == "part" and name in inner]
                self.same([plan.upper_of(name)], uppers if uppers else [None])
            self.assertEqual(len(set(paths.values())), len(names))
            told = plan.told()
            self.same(told, (tuple((name, tuple(own)) for name, own in scripts), tuple(served)))
            self.same(plan_of(told[0], told[1]).told(), told)
            seen["hands"] += len(names) > 5
            seen["joins"] += any(word == "join" for name, own in scripts for word, inner in own)
            seen["deep"] += any(len(path) == 3 for path in paths.values())
            seen["without a script"] += len(names) > len(scripts)
        self.assertTrue(all(many > 20 for many in seen.values()), seen)

    def test_children_are_numbered_on_behind_a_join(self):
        rows = [("part", ("b", "c")), ("join", ("c", "b")), ("part", ("d",)), ("draw", 1), ("part", ("e", "f"))]
        plan = plan_of([("a", rows), ("d", [("part", ("g", "h")), ("join", ("g", "h")), ("part", ("i",))]), ("c", [("part", ("j",))])])
        self.same(plan.names(), ["a", "b", "c", "d", "e", "f", "g", "h", "i", "j"])
        wanted = {"a": (), "b": (0,), "c": (1,), "d": (2,), "e": (3,), "f": (4,), "g": (2, 0), "h": (2, 1), "i": (2, 2), "j": (1, 0)}
        self.same([plan.path_of(name) for name in wanted], list(wanted.values()))
        uppers = [None, "a", "a", "a", "a", "a", "d", "d", "d", "c"]
        self.same([plan.upper_of(name) for name in plan.names()], uppers)

    def test_names_come_script_by_script(self):
        plan = plan_of([("z", [("part", ("y", "x"))]), ("x", [("part", ("c",))]), ("y", [("part", ("b",))]), ("c", [("part", ("a",))])])
        self.same(plan.names(), ["z", "y", "x", "c", "b", "a"])
        self.same(plan.path_of("a"), (1, 0, 0))
        self.same(plan.path_of("b"), (0, 0))

    def test_paths_that_no_machine_has(self):
        names = tuple(NAMES[k] for k in range(1, 21))
        more = tuple(NAMES[k] for k in range(21, 39))
        plan = plan_of([("a", [("part", names), ("part", more)])])
        self.same([plan.path_of(name) for name in plan.names()], [()] + [(k,) for k in range(38)])
        chain = [(NAMES[k], [("part", (NAMES[k + 1],))]) for k in range(9)]
        self.same(plan_of(chain).path_of(NAMES[9]), (0,) * 9)

    def test_unknown_names(self):
        plan = plan_of([("a", [("part", ("b", "c"))]), ("c", [])], ["b"])
        for thing in other_than("d"):
            for call in (plan.rows_of, plan.upper_of, plan.path_of):
                self.refused(Unknown, [thing], call, thing)

    def test_a_script_without_rows_is_told(self):
        self.same(plan_of([("a", [])]).told(), ((("a", ()),), ()))
        plan = plan_of([("a", (("part", ("b", "c")),)), ("c", [])], ("c",))
        self.same(plan.told(), ((("a", (("part", ("b", "c")),)), ("c", ())), ("c",)))
        self.same(plan.rows_of("b"), [])
        self.same(plan.rows_of("c"), [])

    def test_what_is_handed_in_may_be_changed_behind(self):
        rows = [("part", ("b", "c")), ("draw", 3)]
        scripts = [("a", rows), ("c", [("draw", 1)])]
        served = ["a", "c"]
        plan = plan_of(scripts, served)
        told = plan.told()
        rows.append(("draw", 4))
        rows[0] = None
        scripts[1][1].clear()
        scripts.pop()
        served.append("x")
        self.same(plan.told(), told)
        self.same(told, ((("a", (("part", ("b", "c")), ("draw", 3))), ("c", (("draw", 1),))), ("a", "c")))
        self.same(plan.rows_of("a"), [("part", ("b", "c")), ("draw", 3)])
        self.same(plan.rows_of("c"), [("draw", 1)])
        self.same(plan.served(), ["a", "c"])
        self.same(plan.names(), ["a", "b", "c"])

    def test_what_is_told_may_be_changed(self):
        plan = plan_of([("a", [("part", ("b",)), ("draw", 3)])], ["a"])
        for call in (plan.names, plan.served, lambda: plan.rows_of("a"), lambda: plan.rows_of("b")):
            before = call()
            call().clear()
            call().append(None)
            self.same(call(), before)
        self.same(plan.path_of("b"), (0,))

    def test_refused_scripts_are_not_changed(self):
        scripts = [("a", [("part", ["b"])]), ("c", [])]
        self.refused(NoPlan, [0], plan_of, scripts)
        self.same(scripts, [("a", [("part", ["b"])]), ("c", [])])

    def test_objects_among_the_things(self):
        machine = Machine(2, 2, 1, 3)
        for thing in (machine, first_hand(machine, 0), Below(3), Plus(1), plan_of([("a", [])])):
            self.refused(NoName, [thing], plan_of, [(thing, [])])
            self.refused(NoShape, [thing], plan_of, [("a", [("take", thing)])])
            self.refused(Unknown, [thing], plan_of([("a", [])]).path_of, thing)


if __name__ == "__main__":
    unittest.main()
