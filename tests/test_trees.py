"""Points [114] and [115]: the hands of a plan as a tree."""

import random
import unittest

from helpers import Case, NAMES, names_in, paths_in, some_scripts
from splitseed.errors import Unknown
from splitseed.plans import plan_of
from splitseed.plantext import read_plan
from splitseed.steps import Plus
from splitseed.trees import all_paths, family, name_at, show_tree, upper_both, way_between

EXAMPLE = "a\n  b 0\n    d 0 0\n  c 1"
# Parts of several rows, one below another and side by side, and names that begin with one another.
TEXT = (
    "hand a\npart ab b\njoin b ab\ndraw 1\npart abc\nhand b\npart ba\nhand ab\npart d\npart e f\nhand f\npart g h\nhand abc\npart abcd"
)


def unknown_names():
    return [None, True, 5, "", "x", "A", "house", "abcde", [], ["a"], ("a",), {}, {"a": 1}, Plus(1)]


def no_paths_of_anyone():
    """Things that are the path of no hand of TEXT, new ones each time."""
    return [
        None, True, 0, "", "a", [], [0], {}, (3,), (2, 1), (0, 3), (0, 2, 2), (0, 2, 0, 0), (1, 0, 0), (-1,), (True,), (False,), (0, True), (True, 0), ("0",), (None,),
        ((),), ((0,),), [()], (0, (2,)), (10 ** 59,), Plus(1), (Plus(1),), (0, [2]), [0, 2], {0: 2},
    ]


class Trees(Case):
    def test_the_documents_example(self):
        for text in ("hand a\npart b c\nhand b\npart d", "hand a\npart b\ndraw 3\npart c\nhand c\nhand b\ndraw 1\npart d"):
            self.same(show_tree(read_plan(text)), EXAMPLE)

    def test_a_tree(self):
        plan = read_plan(TEXT)
        self.same(list(all_paths(plan).items()), [
            ("a", ()), ("ab", (0,)), ("b", (1,)), ("abc", (2,)), ("ba", (1, 0)), ("d", (0, 0)), ("e", (0, 1)), ("f", (0, 2)), ("g", (0, 2, 0)),
            ("h", (0, 2, 1)), ("abcd", (2, 0)),
        ])
        self.same(family(plan, "a"), ["a", "ab", "d", "e", "f", "g", "h", "b", "ba", "abc", "abcd"])
        self.same(family(plan, "ab"), ["ab", "d", "e", "f", "g", "h"])
        self.same(family(plan, "b"), ["b", "ba"])
        self.same(family(plan, "h"), ["h"])
        self.same(show_tree(plan), "\n".join([
            "a", "  ab 0", "    d 0 0", "    e 0 1", "    f 0 2", "      g 0 2 0", "      h 0 2 1", "  b 1", "    ba 1 0", "  abc 2", "    abcd 2 0",
        ]))

    def test_lowest_hands_and_ways(self):
        plan = read_plan(TEXT)
        for one, other, top, way in (
            ("a", "a", "a", ["a"]), ("h", "h", "h", ["h"]), ("g", "h", "f", ["g", "f", "h"]), ("g", "f", "f", ["g", "f"]), ("f", "g", "f", ["f", "g"]),
            ("a", "h", "a", ["a", "ab", "f", "h"]), ("h", "a", "a", ["h", "f", "ab", "a"]), ("h", "d", "ab", ["h", "f", "ab", "d"]),
            ("h", "ba", "a", ["h", "f", "ab", "a", "b", "ba"]), ("ab", "abc", "a", ["ab", "a", "abc"]), ("abc", "abcd", "abc", ["abc", "abcd"]),
            ("ab", "h", "ab", ["ab", "f", "h"]),
        ):
            self.same(upper_both(plan, one, other), top)
            self.same(way_between(plan, one, other), way)
            self.same(way_between(plan, other, one), way[::-1])
            self.same(upper_both(plan, other, one), top)

    def test_one_hand_alone(self):
        plan = read_plan("hand a\ndraw 3")
        self.same(all_paths(plan), {"a": ()})
        self.same((family(plan, "a"), upper_both(plan, "a", "a"), way_between(plan, "a", "a"), show_tree(plan)), (["a"], "a", ["a"], "a"))
        self.same((name_at(plan, ()), name_at(plan, (0,))), ("a", None))

    def test_trees_by_chance(self):
        chance = random.Random(114)
        seen = 0
        for turn in range(150):
            scripts = some_scripts(chance, hands=11, deep=4)
            plan, names, paths = plan_of(scripts), names_in(scripts), paths_in(scripts)
            self.same(list(all_paths(plan).items()), [(name, paths[name]) for name in names])
            by_path = sorted(names, key=paths.get)
            self.same(show_tree(plan), "\n".join(["  " * len(paths[name]) + name + "".join(f" {k}" for k in paths[name]) for name in by_path]))
            families = {name: family(plan, name) for name in names}
            for one in names:
                self.same(name_at(plan, paths[one]), one)
                # Paths in their order as tuples are the order of the families.
                self.same(families[one], [name for name in by_path if paths[name][:len(paths[one])] == paths[one]])
                for other in names:
                    over = [name for name in names if one in families[name] and other in families[name]]
                    top = max(over, key=lambda name: len(paths[name]))
                    self.same(upper_both(plan, one, other), top)
                    way = way_between(plan, one, other)
                    self.same((way[0], way[-1], len(way), top in way), (one, other, len(paths[one]) + len(paths[other]) - 2 * len(paths[top]) + 1, True))
                    for here, there in zip(way, way[1:]):
                        self.assertTrue(plan.upper_of(here) == there or plan.upper_of(there) == here)
                    seen += one not in way[-1:] and top not in (one, other)
        self.assertGreater(seen, 200)

    def test_a_long_tree(self):
        plan = plan_of([(NAMES[k], [("part", (NAMES[k + 1],))]) for k in range(35)])
        self.same(family(plan, NAMES[0]), list(NAMES[:36]))
        self.same(way_between(plan, NAMES[35], NAMES[0]), list(NAMES[35::-1]))
        self.same(show_tree(plan).split("\n")[35], "  " * 35 + NAMES[35] + " 0" * 35)
        wide = plan_of([("a", [("part", tuple(NAMES[1:31])), ("part", tuple(NAMES[31:39]))])])
        self.same(family(wide, "a"), list(NAMES[:39]))
        self.same(show_tree(wide).split("\n")[38], f"  {NAMES[38]} 37")

    def test_paths_that_nobody_has(self):
        plan = read_plan(TEXT)
        for thing in no_paths_of_anyone():
            self.same(name_at(plan, thing), None)

    def test_what_is_told_may_be_changed(self):
        plan = read_plan(TEXT)
        before = (all_paths(plan), family(plan, "a"), way_between(plan, "a", "h"))
        all_paths(plan).clear()
        all_paths(plan)["a"] = (9,)
        family(plan, "a").clear()
        way_between(plan, "a", "h").clear()
        self.assertEqual((all_paths(plan), family(plan, "a"), way_between(plan, "a", "h")), before)
        self.same(plan.path_of("a"), ())

    def test_names_that_are_none(self):
        plan = read_plan(TEXT)
        for thing in unknown_names():
            self.refused(Unknown, [thing], family, plan, thing)
            for call in (upper_both, way_between):
                self.refused(Unknown, [thing], call, plan, thing, "a")
                self.refused(Unknown, [thing], call, plan, "a", thing)
                self.refused(Unknown, [thing], call, plan, thing, "y")
                self.refused(Unknown, [thing], call, plan, thing, [])


if __name__ == "__main__":
    unittest.main()
