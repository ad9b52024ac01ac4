"""Points [96] and [97]: plans written as texts and read back."""

import random
import unittest

from helpers import Case, NAMES, names_in, no_texts, some_scripts
from splitseed.errors import NoName, NoPlan, NoRow, Twice, Unknown
from splitseed.plans import Plan, plan_of
from splitseed.plantext import read_plan, show_plan
from splitseed.shapes import shape_of
from splitseed.words import own_words

EXAMPLE = "hand a\npart b cc\ndraw 3\nhand cc\ntake below 6"
LONG = (
    "hand a\npart b cc\ndraw 100\ntake pair ( below 6 ) ( rows 2 ( shares 0 3 1 ) )\njoin cc b\nhand cc\nshuffle 30\njump 65536\n"
    "part d\njump 0\nhand b\nshuffle 2\ndraw 1\ntake below 18446744073709551616\nhand d\nserve cc a cc d"
)

# None of these rows can stand anywhere.
WRONG_ROWS = [
    "", " ", "x", "a", "hand", "hand ", "hand  a", " hand a", "hand a ", "hand a b", "Hand a", "HAND a", "hand A", "hand 5", "hand house",
    "hand hand", "hand a1", "hand abcdefghi", "hands a", "draw", "draw ", "draw 0", "draw 101", "draw 03", "draw 00", "draw  3", " draw 3",
    "draw 3 ", "draw 3 3", "draw x", "draw -1", "draw +3", "draw 3.0", "draw 1_0", "Draw 3", "DRAW 3", "draw three", "draw " + "9" * 30,
    "draw " + "1" * 5000, "shuffle", "shuffle 1", "shuffle 0", "shuffle 31", "shuffle 02", "shuffle 2 2", "shuffle  2", "jump", "jump 65537",
    "jump 00", "jump -1", "jump 1 ", "jump a", "take", "take ", "take below", "take below 0", "take below 6 6", "take  below 6", "take below  6",
    "take below 6 ", " take below 6", "take Below 6", "take below 06", "take below 18446744073709551617", "take 6", "take shares 0",
    "take pair ( below 6 )", "take rows 12 ( below 64 )", "take rows 13 ( below 2 )", "take ( below 6 )", "takes below 6", "take orders 21",
    "take pair ( below 4294967296 ) ( below 4294967297 )", "part", "part ", "part A", "part b house", "part  e", "part e  f", "part e ",
    " part e", "part 5", "part e,f", "Part e", "parts e", "join", "join ", "join A", "join b part", "join  b", "join b ", "JOIN b", "serve",
    "serve ", "serve A", "serve house", "serve  a", "serve a ", "serve a  a", "Serve a", "seed 5", "seed 5 a", "plus 5", "show a", "machine 8 3 2 6",
    "below 6", "rows", "row draw 3", "chain ( )", "times 3", "draw\t3", "hand\ta",
]


def names(first, many):
    return " ".join(NAMES[k] for k in range(first, first + many))


class Writing(Case):
    def test_the_documents_example(self):
        plan = read_plan(EXAMPLE)
        self.assertIs(type(plan), Plan)
        self.same(plan.told(), ((("a", (("part", ("b", "cc")), ("draw", 3))), ("cc", (("take", ("below", 6)),))), ()))
        self.same(show_plan(plan), EXAMPLE)
        made = plan_of([("a", [("part", ("b", "cc")), ("draw", 3)]), ("cc", [("take", ("below", 6))])])
        self.same(show_plan(made), EXAMPLE)

    def test_a_long_plan(self):
        plan = read_plan(LONG)
        self.same(show_plan(plan), LONG)
        self.same(plan.served(), ["cc", "a", "cc", "d"])
        told = ("pair", ("below", 6), ("rows", ("shares", (0, 3, 1)), 2))
        self.same(plan.rows_of("a"), [("part", ("b", "cc")), ("draw", 100), ("take", told), ("join", ("cc", "b"))])
        self.same(plan.rows_of("cc"), [("shuffle", 30), ("jump", 65536), ("part", ("d",)), ("jump", 0)])
        self.same(plan.rows_of("b"), [("shuffle", 2), ("draw", 1), ("take", ("below", 2 ** 64))])
        self.same(plan.rows_of("d"), [])

    def test_short_plans(self):
        for text in ("hand a", "hand zzzzzzzz", "hand a\nserve a", "hand a\nserve a a a", "hand a\npart b\nhand b", "hand a\ndraw 1\nserve a"):
            self.same(show_plan(read_plan(text)), text)
        self.same(read_plan("hand a").told(), ((("a", ()),), ()))

    def written(self, scripts, served):
        """The text of a plan, by the document."""
        rows = []
        for name, own in scripts:
            rows.append(f"hand {name}")
            for word, inner in own:
                if word in ("part", "join"):
                    rows.append(word + "".join(" " + name for name in inner))
                elif word == "take":
                    rows.append("take " + shape_of(inner).words())
                else:
                    rows.append(f"{word} {inner}")
        return "\n".join(rows + (["serve " + " ".join(served)] if served else []))

    def test_plans_by_chance_written_and_read_again(self):
        chance = random.Random(96)
        for turn in range(200):
            scripts = some_scripts(chance)
            served = chance.choices(names_in(scripts), k=chance.randint(0, 5))
            plan = plan_of(scripts, served)
            text = show_plan(plan)
            self.same(text, self.written(scripts, served))
            again = read_plan(text)
            self.same(again.told(), plan.told())
            self.same(again.names(), plan.names())
            self.same(show_plan(again), text)


class Refusing(Case):
    def test_things_that_are_no_texts(self):
        for thing in no_texts() + [read_plan(EXAMPLE), [EXAMPLE], EXAMPLE.split("\n")]:
            self.refused(NoPlan, [0], read_plan, thing)

    def test_a_text_without_signs(self):
        for text in ("", " ", "\n", "\n\n", "\nhand a"):
            self.refused(NoPlan, [0], read_plan, text)

    def test_the_first_row_is_a_hand_row(self):
        rows = LONG.split("\n")
        for row in rows:
            if not row.startswith("hand"):
                self.refused(NoPlan, [0], read_plan, row)
                self.refused(NoPlan, [0], read_plan, "\n".join([row] + rows))
        for row in WRONG_ROWS:
            self.refused(NoPlan, [0], read_plan, row)

    def test_rows_that_cannot_stand_at_each_place(self):
        rows = LONG.split("\n")
        for at in range(len(rows)):
            for wrong in WRONG_ROWS:
                self.refused(NoPlan, [at], read_plan, "\n".join(rows[:at] + [wrong] + rows[at + 1:]))
                self.refused(NoPlan, [at], read_plan, "\n".join(rows[:at] + [wrong] + rows[at:]))
        self.refused(NoPlan, [2], read_plan, "hand a\ndraw 1\n")
        self.refused(NoPlan, [1], read_plan, "hand a\n\ndraw 1")

    def test_each_word_spoilt(self):
        rows = LONG.split("\n")
        seen = 0
        for at, row in enumerate(rows):
            words = row.split(" ")
            for k, word in enumerate(words):
                spoilt = [words[:k] + [other] + words[k + 1:] for other in ("", "?", word.upper() + "?", "0" + word, " " + word, word + " ")]
                spoilt += [words[:k + 1] + [""] + words[k + 1:]]
                for other in spoilt:
                    self.refused(NoPlan, [at], read_plan, "\n".join(rows[:at] + [" ".join(other)] + rows[at + 1:]))
                    seen += 1
        self.assertGreater(seen, 200)

    def test_words_in_capitals(self):
        rows = LONG.split("\n")
        for at, row in enumerate(rows):
            words = row.split(" ")
            for k, word in enumerate(words):
                if word != word.upper():
                    other = " ".join(words[:k] + [word.upper()] + words[k + 1:])
                    self.refused(NoPlan, [at], read_plan, "\n".join(rows[:at] + [other] + rows[at + 1:]))

    def test_names_that_are_own_words(self):
        for word in own_words():
            self.refused(NoPlan, [0], read_plan, f"hand {word}")
            self.refused(NoPlan, [1], read_plan, f"hand a\npart {word}")
            self.refused(NoPlan, [1], read_plan, f"hand a\npart b {word}")
            self.refused(NoPlan, [1], read_plan, f"hand a\njoin {word}")
            self.refused(NoPlan, [1], read_plan, f"hand a\nserve a {word}")
            self.refused(NoPlan, [1], read_plan, f"hand a\nhand {word}")

    def test_numbers_at_and_beyond_their_bounds(self):
        for word, least, greatest in (("draw", 1, 100), ("shuffle", 2, 30), ("jump", 0, 65536)):
            for number in (least, greatest):
                self.same(read_plan(f"hand a\n{word} {number}").rows_of("a"), [(word, number)])
                self.refused(NoPlan, [1], read_plan, f"hand a\n{word} 0{number}")
            for number in (least - 1, greatest + 1):
                self.refused(NoPlan, [1], read_plan, f"hand a\n{word} {number}")

    def test_one_name_and_thirty_one(self):
        for word in ("part", "join"):
            self.refused(NoPlan, [1], read_plan, f"hand a\n{word} {names(1, 32)}")
            self.refused(NoPlan, [2], read_plan, f"hand a\npart b\n{word} {names(3, 33)}")
        for many in (1, 31):
            plan = read_plan(f"hand a\npart {names(1, many)}\njoin {names(1, many)}")
            self.same(len(plan.names()), many + 1)
        plan = read_plan("hand a\nserve" + " a" * 200)
        self.same(plan.served(), ["a"] * 200)

    def test_nothing_stands_behind_a_serve_row(self):
        for row in ("serve a", "hand b", "draw 3", "", "x", "part c", "join b"):
            self.refused(NoPlan, [3], read_plan, f"hand a\npart b\nserve a\n{row}")
            self.refused(NoPlan, [3], read_plan, f"hand a\npart b\nserve a\n{row}\nhand b")
            self.refused(NoPlan, [3], read_plan, f"hand a\npart b\nserve x\n{row}")
        # The serve row itself is looked at ahead of what stands behind it.
        self.refused(NoPlan, [1], read_plan, "hand a\nserve A\ndraw 3")
        self.refused(NoPlan, [1], read_plan, "hand a\nserve\n")

    def test_each_row_left_out_twice_or_put_ahead(self):
        # What is read is the plan of just these rows, or refused as that plan is.
        rows = LONG.split("\n")
        changed = [rows[:at] + rows[at + 1:] for at in range(len(rows))]
        changed += [rows[:at + 1] + rows[at:] for at in range(len(rows))]
        changed += [[rows[at]] + rows[:at] + rows[at + 1:] for at in range(1, len(rows))]
        changed += [rows[:at - 1] + [rows[at], rows[at - 1]] + rows[at + 1:] for at in range(1, len(rows))]
        seen = {"read": 0, NoPlan: 0, Twice: 0, Unknown: 0, NoRow: 0}
        for own in changed:
            text = "\n".join(own)
            try:
                plan = read_plan(text)
            except (NoPlan, Twice, Unknown, NoRow) as refusal:
                seen[type(refusal)] += 1
            else:
                seen["read"] += 1
                self.same(show_plan(plan), text)
        self.assertTrue(all(seen.values()), seen)

    def test_refused_as_the_plan(self):
        self.refused(Twice, ["a"], read_plan, "hand a\nhand a")
        self.refused(Unknown, ["b"], read_plan, "hand a\nhand b")
        self.refused(Twice, ["a"], read_plan, "hand a\npart b a")
        self.refused(Twice, ["b"], read_plan, "hand a\npart b b")
        self.refused(Unknown, ["x"], read_plan, "hand a\npart b\nserve a x y")
        self.refused_alike(NoRow, [("join", ("b",))], read_plan, "hand a\npart b c\njoin b")
        self.refused_alike(NoRow, [("join", ("c", "b"))], read_plan, "hand a\npart b c\njoin b c\njoin c b")

    def test_all_rows_ahead_of_the_plan(self):
        for text, at in (("hand a\nhand a\nx", 2), ("hand a\npart a\ndraw 0", 2), ("hand a\nhand b\njoin x\nserve x\n", 4)):
            self.refused(NoPlan, [at], read_plan, text)
        self.refused(Twice, ["a"], read_plan, "hand a\nhand a\nhand x\nserve y")

    def test_no_refusal_by_names_alone_comes_of_a_text(self):
        # A name that is none makes a row that cannot stand, so NoName is never due.
        for text in ("hand A", "hand a\npart A", "hand a\npart b\nhand B"):
            try:
                read_plan(text)
            except NoName:
                self.fail(text)
            except NoPlan:
                pass


if __name__ == "__main__":
    unittest.main()
