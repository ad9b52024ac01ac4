"""Points [121] to [125]: a desk, which answers lines of text."""

import copy
import random
import re
import unittest

from helpers import Case, FIELDS, NAMES, no_texts
from splitseed.desk import Desk
from splitseed.deskwords import outcome_text
from splitseed.errors import (
    Beyond, NoDepth, NoHand, NoJoin, NoLine, NoMachine, NoNumber, NoParts, NoPlan, NoRow, NoSeed, NoState, NoStep, NoText, SeedError, Spent,
    TooDeep, TooMany, TooWide, Twice, Unknown,
)
from splitseed.hands import first_hand, joined
from splitseed.handtext import read_hand, show_hand
from splitseed.ledgers import ledger
from splitseed.machines import Machine
from splitseed.machinetext import show_machine
from splitseed.plantext import read_plan
from splitseed.rounds import tally
from splitseed.shaped import shuffled, taken
from splitseed.shapetext import read_shape
from splitseed.steps import Plus
from splitseed.steptext import read_step
from splitseed.tables import Table
from splitseed.words import own_words

STEPS = ["times 77", "fold 3", "plus 11", "back chain ( fold 2 ; turn 3 )", "lean 5"]
PLAN = ["hand p", "draw 2", "part q r", "take pair ( below 3 ) ( orders 2 )", "join r q", "hand r", "shuffle 4", "jump 3", "draw 1"]

# A good line of each kind, at a desk that is set; the forms are those of the document.
GOOD = [
    "machine 2 3 3 6", "step plus 5", "step chain ( fold 2 ; back turn 3 )", "show machine", "show a", "seed 1 new", "read new hand 2 3 1",
    "read new hand 1 0 0 : 1 3 0 2", "draw a 3", "draw a 0", "jump a 3", "take a below 6", "take b pair ( below 3 ) ( shares 0 2 )", "shuffle a 5",
    "shuffle a 0", "part a new", "part b new other third", "join new c d", "join c d c", "drop a", "hands", "where 77", "who 77", "row hand p",
    "row x", "row whatever is Said 05 house", "rows", "clear", "deal 1", "serve p", "serve p p q r", "rest", "hold p ann", "hold p house",
    "call house", "call ann", "came p", "papers r", "tree", "drew 5",
]
NEED_NO_MACHINE = ("machine", "row", "rows", "clear")
NEED_A_TABLE = ("serve", "rest", "hold", "call", "came", "papers", "tree", "drew")

N = "(?:0|[1-9][0-9]{0,19})"
NAME = "(?!(?:" + "|".join(own_words()) + ")(?![a-z]))[a-z]{1,8}"
LINES = re.compile("|".join([
    f"machine {N} {N} {N} {N}", "step (?P<step>.*)", f"show (?:machine|{NAME})", f"seed {N} {NAME}", f"read {NAME} .+", f"(?:draw|jump|shuffle) {NAME} {N}",
    f"take {NAME} (?P<shape>.*)", f"part {NAME}(?: {NAME}){{1,31}}", f"join {NAME}(?: {NAME})+", f"drop {NAME}", "hands", f"(?:where|who|deal|drew) {N}",
    "count (?P<counted>.*)", "row .+", "rows", "clear", f"serve(?: {NAME})+", "rest", f"hold {NAME} (?:house|{NAME})", f"call (?:house|{NAME})",
    f"(?:came|papers) {NAME}", "tree",
]), re.ASCII)


def is_said_so(text):
    """Whether a text is one of the lines, by the words of the document."""
    if not re.fullmatch("[^ \n]+(?: [^ \n]+)*", text):
        return False
    found = LINES.fullmatch(text)
    if found is None:
        return False
    try:
        if found["step"] is not None:
            read_step(found["step"])
        if found["shape"] is not None or found["counted"] is not None:
            read_shape(found["shape"] if found["counted"] is None else found["counted"])
    except NoText:
        return False
    except TooWide:
        return True
    return True


def set_desk(steps=STEPS, plan=PLAN):
    """A desk with a machine of the width 17, the hands a, b, c, d, rows, and a table that is served in part."""
    desk = Desk()
    for line in ["machine 2 3 3 6"] + ["step " + step for step in steps]:
        desk.say(line)
    for line in ("seed 1 a", "seed 2 b", "jump b 5", "part b c d", "draw c 2"):
        desk.say(line)
    for row in plan:
        desk.say("row " + row)
    desk.say("deal 3")
    desk.say("serve p p r")
    return desk


def small_desk():
    """A desk whose machine has the width 5, two parts at most, depth 1, and four places."""
    desk = Desk()
    for line in ("machine 1 2 1 2", "step times 5", "seed 1 a", "seed 0 b"):
        desk.say(line)
    return desk


def answer(desk, line):
    """What a line is answered by, or its refusal's name and fields."""
    try:
        return desk.say(line)
    except SeedError as refusal:
        return [type(refusal).__name__] + [repr(getattr(refusal, field)) for field in FIELDS[type(refusal).__name__]]


def told_of(desk):
    """All that a desk tells, asked of a copy of it, as some lines change it."""
    own = copy.deepcopy(desk)
    found = [answer(own, line) for line in ("show machine", "hands", "rows", "tree")]
    hands = [] if own.machine is None else own.say("hands")
    found += [answer(own, f"show {name}") for name in hands]
    names = [row.split()[0] for row in own.say("tree")] if own.table is not None else []
    found += [answer(own, f"{word} {name}") for name in names for word in ("came", "papers")]
    if names:
        for holder in ("ann", "house") * 3:
            found.append(answer(own, f"call {holder}"))
        found.append(answer(own, "rest"))
        found += [answer(own, f"came {name}") for name in names]
    return found


class DeskCase(Case):
    def keeps(self, kind, fields, desk, line):
        """The line is refused so, and nothing is changed by it."""
        before = told_of(desk)
        self.refused(kind, fields, desk.say, line)
        self.same(told_of(desk), before)

    def keeps_alike(self, kind, fields, desk, line):
        """As keeps, of fields that were not handed in."""
        before = told_of(desk)
        self.refused_alike(kind, fields, desk.say, line)
        self.same(told_of(desk), before)


class Lines(DeskCase):
    def test_good_lines_are_answered(self):
        for line in GOOD:
            self.assertTrue(is_said_so(line), line)
            found = set_desk().say(line)
            self.assertIs(type(found), list)
            self.assertTrue(all(type(text) is str for text in found))

    def test_each_line_spoilt_in_each_word(self):
        seen = {"none": 0, "said": 0}
        for line in GOOD + ["count below 6", "take a rows 2 ( sets 4 2 )"]:
            words = line.split(" ")
            spoilt = [" " + line, line + " ", line + "\n", "\n" + line, line.replace(" ", "  ", 1), line.replace(" ", "\n", 1), line.upper(), ""]
            for at, word in enumerate(words):
                ahead, behind = words[:at], words[at + 1:]
                changed = [[], [word, word], [word, "x"], [word, "5"], ["x", word], [word.upper()], ["0" + word], [word + "0"], [word, ""], ["", word]]
                changed += [["x"], ["7"], ["house"], ["machine"], ["hand"], ["abcdefghi"], [word + "\n"], ["A"], ["a1"], ["-1"], ["+1"], ["1" * 21]]
                spoilt += [" ".join(ahead + change + behind) for change in changed]
            for text in spoilt:
                if is_said_so(text):
                    seen["said"] += text != line
                    if not text.startswith("read "):
                        self.assertNotEqual(answer(set_desk([]), text)[:1], ["NoLine"], text)
                else:
                    seen["none"] += 1
                    self.refused(NoLine, [text], Desk().say, text)
                    desk = set_desk([])
                    self.refused(NoLine, [text], desk.say, text)
        self.assertGreater(seen["none"], 1000)
        self.assertGreater(seen["said"], 100)

    def test_refused_lines_change_nothing(self):
        desk = set_desk()
        for line in ("draw a 03", "drop A", "jump a 3 ", " jump a 3", "jump  a 3", "clear x", "rows\n", "machine 2 3 3", "step plus", "seed 1", "rest x", "row"):
            self.keeps(NoLine, [line], desk, line)

    def test_things_that_are_no_texts(self):
        desk = set_desk()
        for thing in no_texts() + [["hands"], ("rows",), desk, Plus(1), desk.machine]:
            self.refused(NoLine, [thing], desk.say, thing)
            self.refused(NoLine, [thing], Desk().say, thing)
        self.keeps(NoLine, [None], desk, None)

    def test_lines_that_are_none(self):
        for line in ("", " ", "\n", "x", "help", "paper 5 0 : : 17", "plus 5", "hand 5 3 2", "below 6", "house", "orders 3", "Hands", "machine", "show", "show house",
                     "show hand", "show seed", "serve", "count", "step", "take a", "read", "read new", "part a", "join a", "hold p", "hold p show", "call", "call serve",
                     "call Ann", "where", "where -1", "where 1 2", "deal", "deal a", "tree p", "came", "came p q", "papers house", "drew", "drew a", "who a", "seed a 1"):
            self.assertFalse(is_said_so(line), line)
            self.refused(NoLine, [line], set_desk([]).say, line)
            self.refused(NoLine, [line], Desk().say, line)

    def test_numbers_of_twenty_figures(self):
        desk = small_desk()
        great = "9" * 20
        for line, kind in ((f"seed {great} new", NoSeed), (f"draw a {great}", NoNumber), (f"jump a {great}", NoNumber), (f"shuffle a {great}", NoNumber),
                           (f"where {great}", NoState), (f"who {great}", NoState), (f"machine {great} 1 1 1", NoMachine)):
            self.keeps(kind, [int(great)], desk, line)
            longer = line.replace(great, great + "9")
            self.keeps(NoLine, [longer], desk, longer)
            longer = line.replace(great, "1" + "0" * 20)
            self.keeps(NoLine, [longer], desk, longer)

    def test_names_that_are_words_of_lines(self):
        desk = Desk()
        desk.say("machine 2 3 3 6")
        for name in ("hands", "rest", "tree", "row", "read", "clear", "deal", "step", "drop", "who"):
            desk.say(f"seed 1 {name}")
        self.same(desk.say("hands"), sorted(["hands", "rest", "tree", "row", "read", "clear", "deal", "step", "drop", "who"]))
        self.same(desk.say("drop drop"), [])
        self.same(desk.say("show tree"), ["hand 1 0 0"])
        for word in own_words():
            self.keeps(NoLine, [f"seed 1 {word}"], desk, f"seed 1 {word}")

    def test_one_name_and_thirty_one_parts(self):
        desk = Desk()
        for line in ("machine 2 5 1 6", "seed 1 a"):
            desk.say(line)
        most = " ".join(NAMES[1:32])
        line = f"part a {most} {NAMES[32]}"
        self.keeps(NoLine, [line], desk, line)
        self.same(desk.say(f"part a {most}"), [])
        self.same(desk.say("hands"), sorted(NAMES[:32]))
        self.same(desk.say(f"show {NAMES[31]}"), ["hand 1 0 0 : 30 0 0 31"])
        self.same(desk.say("show a"), ["hand 1 0 31"])
        self.keeps_alike(NoJoin, [31], desk, f"join new {most} {NAMES[1]}")
        self.same(desk.say(f"join new {most}"), [])
        self.same(desk.say("show new"), ["hand 1 0 31"])


class Needs(DeskCase):
    def test_lines_that_need_a_machine(self):
        for line in GOOD + ["count below 6", "take a below 2000000", "show zz", "drop zz", "serve zz", "part a a"]:
            desk = Desk()
            if line.split(" ")[0] in NEED_NO_MACHINE:
                desk.say(line)
            else:
                self.keeps(NoMachine, [None], desk, line)
        desk = Desk()
        for line in ("row hand a", "rows", "clear"):
            desk.say(line)
        self.keeps(NoMachine, [None], desk, "deal 0")

    def test_lines_that_need_a_table(self):
        for line in GOOD:
            desk = Desk()
            desk.say("machine 2 3 3 6")
            if line.split(" ")[0] in NEED_A_TABLE:
                self.keeps(NoPlan, [0], desk, line)
            elif line.split(" ")[0] not in ("deal",):
                self.assertNotEqual(answer(desk, line)[:1], ["NoPlan"], line)
        for line in ("serve zz", "hold zz ann", "came zz", "drew 99999999"):
            desk = Desk()
            desk.say("machine 2 3 3 6")
            self.keeps(NoPlan, [0], desk, line)

    def test_the_order_of_the_first_refusals(self):
        wide = "rows 12 ( below 64 )"
        for desk in (Desk(), small_desk()):
            self.refused(NoLine, [f"take A {wide}"], desk.say, f"take A {wide}")
            self.refused(NoLine, [f"count {wide} x"], desk.say, f"count {wide} x")
            self.refused(TooWide, [64 ** 12], desk.say, f"take zz {wide}")
            self.refused(TooWide, [64 ** 12], desk.say, f"count {wide}")
            self.refused(NoLine, ["step plus 18446744073709551616"], desk.say, "step plus 18446744073709551616")
        self.refused(NoMachine, [None], Desk().say, "take zz below 6")
        self.refused(NoMachine, [None], Desk().say, "read new x")
        self.refused(NoMachine, [None], Desk().say, "tree")
        self.refused(NoMachine, [None], Desk().say, "step chain ( chain ( chain ( plus 1 ) ) )")


class Machines(DeskCase):
    def test_machine_and_steps(self):
        desk = Desk()
        self.same(desk.say("machine 2 3 3 6"), [])
        self.same(desk.say("show machine"), ["machine 2 3 3 6"])
        for at, step in enumerate(STEPS):
            self.same(desk.say("step " + step), [])
            self.same(desk.say("show machine"), ["machine 2 3 3 6"] + STEPS[:at + 1])
        self.same(desk.say("machine 0 1 0 4"), [])
        self.same(desk.say("show machine"), ["machine 0 1 0 4"])
        for line in ("machine 32 5 3 16", "machine 0 1 0 4", "machine 4 1 6 16"):
            self.same(desk.say(line), [])
            self.same(desk.say("show machine"), [line])

    def test_machines_that_are_none(self):
        for desk in (Desk(), set_desk()):
            for sizes, found in (("33 1 1 5", 33), ("1 0 1 5", 0), ("1 6 1 5", 6), ("1 1 7 5", 7), ("1 1 1 0", 0), ("1 1 1 17", 17), ("0 1 1 2", 3), ("32 5 6 16", 78),
                                 ("33 9 9 99", 33), ("1 9 9 99", 9), ("1 1 9 99", 9), ("32 5 4 13", 65)):
                self.keeps(NoMachine, [found], desk, "machine " + sizes)

    def test_steps_that_are_none(self):
        desk = set_desk([])
        deep = "chain ( chain ( chain ( plus 1 ) ) )"
        found = self.fields_of_refusal(NoStep, desk.say, "step " + deep)
        self.same(found[0].words(), deep)
        found = self.fields_of_refusal(NoStep, desk.say, "step back back back fold 3")
        self.same(found[0].words(), "back back back fold 3")
        self.assertTrue(desk.say("hands"))
        self.same(desk.say("step back back fold 3"), [])
        for k in range(11):
            self.same(desk.say(f"step plus {k}"), [])
        desk.say("seed 1 a")
        before = told_of(desk)
        found = self.fields_of_refusal(NoStep, desk.say, "step plus 12")
        self.same([step.words() for step in found[0]], ["back back fold 3"] + [f"plus {k}" for k in range(11)] + ["plus 12"])
        self.assertIs(type(found[0]), list)
        # That there are too many steps is due ahead of one that is too deep.
        found = self.fields_of_refusal(NoStep, desk.say, "step " + deep)
        self.same(len(found[0]), 13)
        self.same(told_of(desk), before)
        for line in ("step times 4", "step fold 0", "step fold 64", "step plus 05", "step back", "step chain ( )  ", "step chain ( plus 1 ;"):
            self.keeps(NoLine, [line], desk, line)

    def test_hands_and_table_go(self):
        for line in ("machine 2 3 3 6", "machine 1 1 1 4", "step plus 0"):
            desk = set_desk()
            self.same(desk.say(line), [])
            self.same(desk.say("hands"), [])
            self.same(desk.say("rows"), PLAN)
            self.refused(NoPlan, [0], desk.say, "tree")
            self.refused(Unknown, ["a"], desk.say, "show a")
            desk.say("seed 1 a")
            self.same(desk.say("show a"), ["hand 1 0 0"])
        for line in ("machine 99 1 1 1", "step chain ( chain ( chain ( plus 1 ) ) )"):
            desk = set_desk()
            before = told_of(desk)
            self.assertRaises(SeedError, desk.say, line)
            self.same(told_of(desk), before)

    def test_draws_go_by_the_steps(self):
        desk = set_desk()
        machine = desk.machine
        self.same(show_machine(machine), "machine 2 3 3 6\n" + "\n".join(STEPS))
        self.same(desk.say("draw a 2"), [str(machine.state(1, (), place)) for place in range(2)])
        desk.say("step plus 5")
        desk.say("seed 1 a")
        self.same(desk.say("draw a 2"), [str((machine.state(1, (), place) + 5) % 2 ** 17) for place in range(2)])


class HandLines(DeskCase):
    def test_lines_by_figures(self):
        # Without steps a state is its spot: one figure of the seed, two of the path, two of the place.
        desk = Desk()
        for line, wanted in (
            ("machine 1 2 1 2", []), ("seed 1 a", []), ("draw a 2", ["16", "17"]), ("show a", ["hand 1 2 0"]), ("part a b c", []), ("show a", ["hand 1 2 2"]),
            ("show c", ["hand 1 0 0 : 1 2 0 2"]), ("draw c 1", ["24"]), ("draw c 0", []), ("jump c 2", []), ("draw c 1", ["27"]), ("hands", ["a", "b", "c"]),
            ("take b below 32", ["20", "1"]), ("take b below 11", ["10", "1"]), ("shuffle b 2", ["0", "1"]), ("join d c b", []), ("hands", ["a", "d"]),
            ("show d", ["hand 1 2 2"]), ("drop a", []), ("hands", ["d"]), ("read e hand 0 4 3", []), ("show e", ["hand 0 4 3"]), ("where 24", ["1 0 1"]),
            ("where 31", ["1 3 2"]), ("where 5", ["0 1 0"]), ("where 18", ["1 2"]), ("who 17", ["d"]), ("who 24", []), ("who 3", ["e"]), ("who 4", []),
        ):
            self.same((line, desk.say(line)), (line, wanted))

    def test_takings_with_outcomes_of_all_kinds(self):
        desk = set_desk()
        for words in ("below 6", "below 70000", "shares 0 3 0 4", "orders 0", "orders 5", "sets 6 2", "sets 4 0", "pair ( below 3 ) ( pair ( orders 2 ) ( below 2 ) )",
                      "rows 0 ( below 2 )", "rows 2 ( rows 2 ( rows 2 ( orders 2 ) ) )"):
            for name in "abcd":
                text = desk.say(f"show {name}")[0]
                outcome, behind, paper = taken(read_hand(desk.machine, text), read_shape(words))
                self.same(desk.say(f"take {name} {words}"), [outcome_text(outcome), str(len(paper[3]))])
                self.same(desk.say(f"show {name}"), [show_hand(behind)])

    def test_reading_hands(self):
        desk = set_desk([])
        for text in ("hand 0 0 0", "hand 3 64 7", "hand 1 0 0 : 1 3 0 2", "hand 2 5 0 : 6 64 0 7 : 0 0 0 1 : 3 1 3 1"):
            self.same(desk.say(f"read new {text}"), [])
            self.same(desk.say("show new"), [text])
            self.keeps(Twice, ["new"], desk, f"read new {text}")
            desk.say("drop new")
        for text, told in (("hand 4 0 0", (4, (), 0, 0, ())), ("hand 0 65 0", (0, (), 65, 0, ())), ("hand 0 0 8", (0, (), 0, 8, ())),
                           ("hand 0 0 0 : 7 0 7 1", (0, (7,), 0, 0, ((0, 7, 1),))), ("hand 1 0 0 : 1 3 0 1", (1, (1,), 0, 0, ((3, 0, 1),))),
                           ("hand " + "9" * 30 + " 0 0", (int("9" * 30), (), 0, 0, ()))):
            self.keeps_alike(NoHand, [told], desk, f"read new {text}")
            self.keeps(Twice, ["a"], desk, f"read a {text}")
        for text in ("hand", "x", "hand 1", "hand 1 0", "hand 1 0 0 :", "hand 1 0 0 : 1 3 0", "hand 1 0 0 1", "hand 01 0 0", "Hand 1 0 0", "hand 1 0 -1", "new", "hand a 0 0",
                     "hand " + "9" * 31 + " 0 0", "hand 9 9 9 :"):
            self.keeps(NoLine, [f"read new {text}"], desk, f"read new {text}")
            self.keeps(Twice, ["a"], desk, f"read a {text}")

    def test_refusals_of_hand_lines(self):
        desk = small_desk()
        desk.say("jump a 3")
        for line in ("draw zz 1", "jump zz 99999", "take zz below 2000", "shuffle zz 61", "part zz a a", "drop zz", "show zz"):
            self.keeps(Unknown, ["zz"], desk, line)
        self.keeps(Twice, ["a"], desk, "seed 0 a")
        self.keeps(Twice, ["a"], desk, "seed 9 a")
        self.keeps(NoSeed, [2], desk, "seed 2 new")
        for word in ("draw", "jump"):
            self.keeps(NoNumber, [65537], desk, f"{word} a 65537")
            self.keeps_alike(Spent, [(), 3], desk, f"{word} a 65536")
            self.keeps_alike(Spent, [(), 3], desk, f"{word} a 2")
        self.keeps(TooWide, [33], desk, "take a below 33")
        self.keeps(NoNumber, [61], desk, "shuffle a 61")
        self.keeps(TooWide, [33], desk, "shuffle a 33")
        self.keeps(TooWide, [60], desk, "shuffle a 60")
        self.keeps_alike(Spent, [(), 3], desk, "shuffle a 3")
        self.same(desk.say("draw a 1"), [str(desk.machine.state(1, (), 3))])
        for line in ("draw a 1", "jump a 1", "take a below 1", "shuffle a 2"):
            self.keeps_alike(Spent, [(), 4], desk, line)
        for line in ("draw a 0", "jump a 0", "shuffle a 0"):
            self.same(desk.say(line), [])
        self.same(desk.say("shuffle a 1"), ["0"])

    def test_a_shuffle_at_its_most(self):
        desk = set_desk()
        desk.say("machine 10 2 1 10")
        desk.say("step times 40503")
        desk.say("step fold 9")
        desk.say("seed 5 a")
        row, behind, papers = shuffled(first_hand(desk.machine, 5), list(range(60)))
        self.same(desk.say("shuffle a 60"), [str(thing) for thing in row])
        self.same(desk.say("show a"), [show_hand(behind)])
        self.keeps(NoNumber, [61], desk, "shuffle a 61")

    def test_a_taking_without_end(self):
        # All numbers of the seed 1 are thrown.
        desk = Desk()
        for line in ("machine 1 1 0 3", "seed 1 a"):
            desk.say(line)
        desk.say("jump a 2")
        self.keeps_alike(Spent, [(), 2], desk, "take a below 9")
        self.same(desk.say("draw a 1"), ["10"])

    def test_parts(self):
        desk = small_desk()
        self.keeps(Unknown, ["zz"], desk, "part zz zz")
        for line, name in (("part a a", "a"), ("part a new a", "a"), ("part a b", "b"), ("part a new new", "new"), ("part a new b new", "b"), ("part a new new b", "new"),
                           ("part a x y z w x", "x"), ("part a x y z a", "a")):
            self.keeps(Twice, [name], desk, line)
        self.keeps_alike(TooMany, [(), 4], desk, "part a c d e f")
        self.same(desk.say("part a c d"), [])
        self.keeps_alike(TooMany, [(), 2], desk, "part a e f")
        self.same(desk.say("part a e"), [])
        self.keeps_alike(TooMany, [(), 1], desk, "part a f")
        self.keeps_alike(TooDeep, [(1,)], desk, "part d f")
        self.keeps_alike(TooDeep, [(2,)], desk, "part e f g h i")
        self.keeps(Twice, ["c"], desk, "part d c")
        self.same([desk.say(f"show {name}")[0] for name in "acde"], ["hand 1 0 3", "hand 1 0 0 : 0 0 0 2", "hand 1 0 0 : 1 0 0 2", "hand 1 0 0 : 2 0 2 1"])

    def test_joins(self):
        desk = set_desk()
        desk.say("draw b 1")
        self.keeps(Unknown, ["zz"], desk, "join new zz")
        self.keeps(Unknown, ["zz"], desk, "join a c zz y")
        self.keeps(Unknown, ["zz"], desk, "join new a zz")
        self.keeps(Twice, ["a"], desk, "join a c d")
        self.keeps(Twice, ["b"], desk, "join b c c")
        self.keeps_alike(NoJoin, [0], desk, "join new a")
        self.keeps_alike(NoJoin, [0], desk, "join a a")
        self.keeps_alike(NoJoin, [1], desk, "join new c a")
        self.keeps_alike(NoJoin, [1], desk, "join new c c")
        self.keeps_alike(NoJoin, [1], desk, "join new d d c")
        self.keeps_alike(NoJoin, [2], desk, "join new d c d")
        self.keeps_alike(NoJoin, [1], desk, "join new c")
        self.keeps_alike(NoJoin, [1], desk, "join c c")
        self.same(desk.say("join new d c"), [])
        self.same(desk.say("hands"), ["a", "b", "new"])
        self.same(desk.say("show new"), ["hand 2 5 2"])
        self.same(desk.say("show b"), ["hand 2 6 2"])
        # The new name may be one of those that go.
        desk.say("part a c d")
        self.same(desk.say("join d c d"), [])
        self.same(desk.say("hands"), ["a", "b", "d", "new"])
        self.same(desk.say("show d"), ["hand 1 0 2"])

    def test_who_and_where(self):
        desk = set_desk()
        machine = desk.machine
        desk.say("seed 1 z")
        desk.say("read aa hand 2 9 0 : 1 0 1 1")
        for seed, path, place, names in ((1, (), 50, ["a", "z"]), (2, (), 0, ["b"]), (2, (0,), 63, ["c"]), (2, (1,), 7, ["aa", "d"]), (2, (2,), 0, []), (3, (), 0, [])):
            number = machine.state(seed, path, place)
            self.same(desk.say(f"who {number}"), names)
            self.same(desk.say(f"where {number}"), [" ".join(str(part) for part in (seed, place) + path)])
        nobody = [number for number in range(2000) if machine.read_state(number) is None][0]
        self.same(desk.say(f"where {nobody}"), [])
        self.same(desk.say(f"who {nobody}"), [])
        for word in ("where", "who"):
            self.keeps(NoState, [2 ** 17], desk, f"{word} {2 ** 17}")
        desk.say("drop z")
        self.same(desk.say(f"who {machine.state(1, (), 0)}"), ["a"])

    def test_counts(self):
        desk = small_desk()
        for words in ("below 5", "below 32", "shares 2 0 1", "orders 3", "pair ( below 2 ) ( sets 3 2 )", "rows 2 ( orders 2 )", "rows 0 ( below 2 )"):
            outcomes, thrown = tally(desk.machine, read_shape(words))
            self.same(desk.say(f"count {words}"), [f"{outcome_text(outcome)} {times}" for outcome, times in outcomes] + [f"thrown {thrown}"])
        self.same(desk.say("count shares 2 0 1"), ["0 20", "2 10", "thrown 2"])
        self.same(desk.say("count pair ( below 2 ) ( orders 2 )"), ["( 0 ( 0 1 ) ) 8", "( 0 ( 1 0 ) ) 8", "( 1 ( 0 1 ) ) 8", "( 1 ( 1 0 ) ) 8", "thrown 0"])
        self.keeps(TooWide, [33], desk, "count below 33")
        self.keeps(TooWide, [2 ** 17], set_desk(), "count below 33")
        desk.say("machine 4 1 2 6")
        self.keeps(TooWide, [1001], desk, "count below 1001")
        self.same(desk.say("count below 1000")[-1], "thrown 96")


class HandModel:
    """What a desk should answer to lines on hands, by the hands' own deeds."""

    def __init__(self, machine):
        self.machine, self.hands = machine, {}

    def free(self, name, but=()):
        if name in self.hands and name not in but:
            raise Twice(name)

    def hand(self, name):
        if name not in self.hands:
            raise Unknown(name)
        return self.hands[name]

    def say(self, word, *things):
        if word == "seed":
            self.free(things[1])
            self.hands[things[1]] = first_hand(self.machine, things[0])
        elif word == "draw":
            numbers, self.hands[things[0]] = self.hand(things[0]).draws(things[1])
            return list(map(str, numbers))
        elif word == "jump":
            self.hands[things[0]] = self.hand(things[0]).jumped(things[1])
        elif word == "shuffle":
            row, self.hands[things[0]], papers = shuffled(self.hand(things[0]), list(range(things[1])))
            return list(map(str, row))
        elif word == "part":
            hand = self.hand(things[0])
            for at, name in enumerate(things[1:]):
                self.free(name)
                if name in things[1:at + 1]:
                    raise Twice(name)
            parts, self.hands[things[0]] = hand.parted(len(things) - 1)
            self.hands.update(zip(things[1:], parts))
        elif word == "join":
            hands = [self.hand(name) for name in things[1:]]
            self.free(things[0], things[1:])
            whole = joined(hands)
            for name in things[1:]:
                del self.hands[name]
            self.hands[things[0]] = whole
        elif word == "drop":
            self.hand(things[0])
            del self.hands[things[0]]
        elif word == "show":
            return [show_hand(self.hand(things[0]))]
        return []


class ManyLines(DeskCase):
    def some_line(self, chance, hands):
        """The word of a line on hands and the things behind it, by chance; more often good than not."""
        word = chance.choice(("seed", "draw", "draw", "jump", "shuffle", "part", "part", "part", "part", "join", "drop", "show"))
        every = NAMES[:12]
        here = [name for name in every if name in hands]
        fresh = [name for name in every if name not in hands]
        good = chance.random() < 0.8 and len(here) > 0 and len(fresh) > 3
        one = chance.choice(here if good else every)
        if word == "seed":
            return word, (chance.randint(0, 4), chance.choice(fresh if good else every))
        if word in ("draw", "jump", "shuffle"):
            return word, (one, chance.choice((0, 1, 2, 3, 5, 17)))
        if word == "part":
            many = chance.randint(1, 3)
            return word, (one,) + tuple(chance.sample(fresh, many) if good else chance.choices(every, k=many))
        if word == "join" and good:
            # All hands that came by one splitting, perhaps, as those of other ones are seldom joined.
            beside = [name for name in here if hands[name].stubs == hands[one].stubs and hands[name].path[:-1] == hands[one].path[:-1]]
            return word, (chance.choice(fresh + beside),) + tuple(chance.sample(beside, len(beside)))
        if word == "join":
            return word, tuple(chance.choices(every, k=chance.randint(2, 4)))
        return word, (one,)

    def test_hand_lines_by_chance(self):
        chance = random.Random(123)
        seen = {}
        for turn in range(20):
            desk = Desk()
            desk.say("machine 2 2 2 4")
            for step in STEPS:
                desk.say("step " + step)
            model = HandModel(desk.machine)
            for k in range(150):
                word, things = self.some_line(chance, model.hands)
                line = " ".join([word] + [str(thing) for thing in things])
                try:
                    wanted = model.say(word, *things)
                except SeedError as refusal:
                    fields = [getattr(refusal, field) for field in FIELDS[type(refusal).__name__]]
                    self.keeps_alike(type(refusal), fields, desk, line)
                    seen[type(refusal).__name__] = seen.get(type(refusal).__name__, 0) + 1
                else:
                    self.same((line, desk.say(line)), (line, wanted))
                    seen[word] = seen.get(word, 0) + 1
                self.same(desk.say("hands"), sorted(model.hands))
                for name, hand in model.hands.items():
                    self.same(desk.say(f"show {name}"), [show_hand(hand)])
        for word in ("seed", "draw", "jump", "shuffle", "part", "join", "drop", "show", "Twice", "Unknown", "NoSeed", "Spent", "TooDeep", "TooMany", "NoJoin"):
            self.assertGreater(seen.get(word, 0), 3, seen)


class TableLines(DeskCase):
    def test_rows(self):
        desk = Desk()
        self.same(desk.say("rows"), [])
        for row in ("hand a", "x", "draw 3", "?", "row row", "0 00 House", "hand a"):
            self.same(desk.say(f"row {row}"), [])
        self.same(desk.say("rows"), ["hand a", "x", "draw 3", "?", "row row", "0 00 House", "hand a"])
        desk.say("rows").clear()
        self.same(len(desk.say("rows")), 7)
        self.same(desk.say("clear"), [])
        self.same(desk.say("rows"), [])
        self.same(desk.say("clear"), [])
        for line in ("row", "row ", "row  x", "row x ", "row x  y", "row x\ny"):
            self.keeps(NoLine, [line], desk, line)

    def test_deals_that_are_refused(self):
        desk = small_desk()
        self.keeps(NoPlan, [0], desk, "deal 0")
        self.keeps(NoPlan, [0], desk, "deal 99")
        for rows, kind, fields in (
            (["x"], NoPlan, [0]), (["hand p", "draw 0"], NoPlan, [1]), (["hand p", "serve p", "draw 1"], NoPlan, [2]), (["hand p", "hand p"], Twice, ["p"]),
            (["hand p", "hand q"], Unknown, ["q"]), (["hand p", "part q", "serve r"], Unknown, ["r"]), (["hand p", "take rows 12 ( below 64 )"], NoPlan, [1]),
        ):
            desk.say("clear")
            for row in rows:
                desk.say(f"row {row}")
            for seed in (0, 99):
                self.keeps(kind, fields, desk, f"deal {seed}")
        desk.say("clear")
        for row in ("hand p", "part q", "join p"):
            desk.say(f"row {row}")
        self.keeps_alike(NoRow, [("join", ("p",))], desk, "deal 99")
        for rows, kind, fields in (
            (["hand p", "draw 5"], Beyond, ["p", 0]), (["hand p", "part q", "hand q", "draw 2", "part r"], NoDepth, ["q", 1]), (["hand p", "part q r s t"], NoParts, ["p", 0]),
            (["hand p", "take below 33"], TooWide, [33]), (["hand p", "draw 4", "jump 1"], Beyond, ["p", 4]), (["hand p", "shuffle 30"], Beyond, ["p", 0]),
        ):
            desk.say("clear")
            for row in rows:
                desk.say(f"row {row}")
            self.keeps(NoSeed, [2], desk, "deal 2")
            self.keeps(kind, fields, desk, "deal 1")

    def test_a_refused_deal_leaves_the_table(self):
        desk = set_desk()
        self.keeps(NoSeed, [4], desk, "deal 4")
        desk.say("row x")
        self.keeps(NoPlan, [len(PLAN)], desk, "deal 1")
        self.same(desk.say("came p")[1], "q r")

    def test_a_table_line_by_line(self):
        desk = Desk()
        for line, wanted in (
            ("machine 1 2 1 3", []), ("row hand p", []), ("row draw 2", []), ("row part q r", []), ("row take pair ( below 2 ) ( below 3 )", []), ("row join r q", []),
            ("row jump 1", []), ("row hand r", []), ("row shuffle 2", []), ("deal 1", ["p", "q", "r"]), ("came p", []), ("papers p", []), ("tree", ["p", "  q 0", "  r 1"]),
            ("serve q r", ["0"]), ("serve p", ["1"]), ("came p", ["32 33"]), ("papers p", ["0 2"]), ("call ann", []), ("call house", ["p"]), ("hold r ann", []),
            ("serve p p p", ["1"]), ("came p", ["32 33", "q r", "( 1 0 )"]), ("papers p", ["0 2", "2 0", "2 1"]), ("call house", []), ("call ann", ["r"]),
            ("came r", ["0 1"]), ("papers r", ["0 1"]), ("call ann", []), ("rest", ["2"]), ("came p", ["32 33", "q r", "( 1 0 )", "r q", "4"]),
            ("papers p", ["0 2", "2 0", "2 1", "3 0", "3 1"]), ("came q", []), ("papers q", []), ("rest", ["0"]), ("serve p q r", ["0"]), ("drew 32", ["p 0 0"]),
            ("drew 33", ["p 0 1"]), ("drew 34", ["p 2 2"]), ("drew 35", []), ("drew 48", ["r 0 0"]), ("drew 40", []), ("drew 0", []), ("hands", []), ("rows", [
                "hand p", "draw 2", "part q r", "take pair ( below 2 ) ( below 3 )", "join r q", "jump 1", "hand r", "shuffle 2",
            ]),
        ):
            self.same((line, desk.say(line)), (line, wanted))

    def test_refusals_of_table_lines(self):
        desk = set_desk()
        for line in ("serve zz", "serve p zz p", "serve p p r zz y", "hold zz ann", "came zz", "papers zz", "came a", "hold a house"):
            name = "a" if " a" in line and "ann" not in line else "zz"
            self.keeps(Unknown, [name], desk, line)
        self.keeps(NoState, [2 ** 17], desk, f"drew {2 ** 17}")
        desk.say("rest")
        self.keeps(NoHand, ["q"], desk, "hold q ann")
        desk.say("deal 1")
        self.keeps(NoHand, ["r"], desk, "hold r house")
        for line in ("hold p plus", "call seed", "hold p Ann", "serve p house"):
            self.keeps(NoLine, [line], desk, line)

    def test_rows_put_behind_and_cleared_while_a_table_stands(self):
        desk, beside = set_desk(), set_desk()
        desk.say("row draw 9")
        desk.say("row hand z")
        self.same(desk.say("tree"), beside.say("tree"))
        desk.say("clear")
        self.same(desk.say("rows"), [])
        for line in ("tree", "came p", "papers p", "serve p p q r r", "came r", "rest", "came p", "came r"):
            self.same(desk.say(line), beside.say(line))
        self.keeps(NoPlan, [0], desk, "deal 1")

    def test_the_same_deal_told_twice(self):
        desk = set_desk()
        desk.say("hold p ann")
        desk.say("rest")
        whole = desk.say("came p")
        self.same(desk.say("deal 3"), ["p", "q", "r"])
        self.same(desk.say("came p"), [])
        self.same(desk.say("call house"), ["p"])
        self.same(desk.say("came p"), whole[:1])
        desk.say("rest")
        self.same(desk.say("came p"), whole)
        self.same(desk.say("deal 2"), ["p", "q", "r"])
        desk.say("rest")
        self.assertNotEqual(desk.say("came p"), whole)

    def test_served_names_of_the_plan_are_not_dealt_by_themselves(self):
        desk = Desk()
        for line in ("machine 1 2 1 3", "row hand p", "row draw 1", "row serve p", "deal 0"):
            desk.say(line)
        self.same(desk.say("came p"), [])

    def test_hands_and_table_side_by_side(self):
        desk, beside = set_desk(), set_desk()
        table = ["tree", "came p", "papers p", "came r", "papers r", "came q"]
        before = [desk.say(line) for line in table]
        for line in ("draw a 3", "part a p q", "drop q", "shuffle p 3", "seed 3 r", "draw r 20", "join new c d", "hands"):
            desk.say(line)
        self.same([desk.say(line) for line in table], before)
        before = [answer(desk, line) for line in ("hands", "show p", "show r", "show a", f"who {desk.machine.state(3, (), 0)}")]
        for line in ("serve p p", "hold p ann", "call ann", "rest"):
            self.same(desk.say(line), beside.say(line))
        self.same([answer(desk, line) for line in ("hands", "show p", "show r", "show a", f"who {desk.machine.state(3, (), 0)}")], before)
        self.same([desk.say(line) for line in table], [beside.say(line) for line in table])
        desk.say("deal 0")
        self.same(desk.say("hands"), ["a", "b", "new", "p", "r"])

    def test_two_desks_side_by_side(self):
        one, other = set_desk(), set_desk()
        before = told_of(other)
        for line in ("drop a", "rest", "clear", "row x", "step plus 1", "machine 1 1 1 4"):
            one.say(line)
        self.same(told_of(other), before)

    def test_what_is_told_may_be_changed(self):
        desk = set_desk()
        before = told_of(desk)
        for line in ("hands", "rows", "show machine", "show a", "tree", "came p", "papers p", "came r"):
            desk.say(line).clear()
            desk.say(line).append("x")
        self.same(told_of(desk), before)

    def test_drew_agrees_with_the_ledger(self):
        desk = set_desk()
        machine, plan = desk.machine, read_plan("\n".join(PLAN))
        for name, at, place, numbers in ledger(machine, 3, plan):
            for k, number in enumerate(numbers):
                self.same(desk.say(f"drew {number}"), [f"{name} {at} {place + k}"])
        self.same(desk.say(f"drew {machine.state(3, (), 60)}"), [])
        self.same(desk.say(f"drew {machine.state(2, (), 0)}"), [])

    def test_names_by_coming(self):
        desk = Desk()
        for line in ["machine 2 3 3 6"] + [f"row {row}" for row in ("hand z", "part y x", "hand x", "part a", "hand y", "part b")]:
            desk.say(line)
        self.same(desk.say("deal 0"), ["z", "y", "x", "a", "b"])
        self.same(desk.say("tree"), ["z", "  y 0", "    b 0 0", "  x 1", "    a 1 0"])

    def test_as_a_table(self):
        desk = set_desk()
        table = Table(desk.machine, 3, read_plan("\n".join(PLAN)))
        self.same(table.deal(["p", "p", "r"]), 3)
        self.same(desk.say("serve r r p"), [str(table.deal(["r", "r", "p"]))])
        self.same(desk.say("rest"), [str(table.serve_out())])
        self.same(desk.say("came r"), [" ".join(map(str, table.came("r")[0])), str(table.came("r")[1]), " ".join(map(str, table.came("r")[2]))])
        self.same(desk.say("papers r"), [f"{place} {used}" for path, place, used in table.papers("r")])
        came = table.came("p")
        self.same(desk.say("came p"), [" ".join(map(str, came[0])), "q r", outcome_text(came[2]), "r q"])


if __name__ == "__main__":
    unittest.main()
