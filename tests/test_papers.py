"""Points [73], [76] and [77]: papers checked, written and read."""

import random
import unittest

from helpers import Case, no_texts, no_whole_numbers
from splitseed.errors import NoPaper, NoText, Spent
from splitseed.hands import first_hand
from splitseed.machines import Machine
from splitseed.papers import is_paper, read_paper, show_paper
from splitseed.shaped import shuffled, taken
from splitseed.shapes import Below, Orders, Pair, Rows, Sets, Shares
from splitseed.steps import Cross, Fold, Lean, Plus, Times

STEPS = [Times(77), Fold(3), Plus(11), Lean(5), Cross(45), Times(13)]
SHAPES = [
    Below(2), Below(65), Shares([3, 0, 2]), Orders(3), Sets(5, 2), Pair(Below(3), Orders(3)), Rows(Below(2), 3),
    Pair(Below(5), Rows(Below(13), 1)), Rows(Below(2), 0), Below(1),
]


def machine():
    """Four seeds, parts up to three, depth 1, eight places: the width 7."""
    return Machine(2, 2, 1, 3, STEPS)


def takings(own, shape):
    """All takings of all hands of a machine of depth 1 and parts up to 3, as tuples of outcome and paper."""
    found = []
    for seed in range(own.seeds()):
        first = first_hand(own, seed)
        for hand in [first] + first.parted(3)[0]:
            for place in range(own.length()):
                try:
                    outcome, behind, paper = taken(hand.jumped(place), shape)
                except Spent:
                    continue
                found.append((outcome, paper))
    return found


def forged_numbers(number):
    """Things that are not this number."""
    return [number + 1, number - 1, None, str(number), [number], (number,), {}, Plus(1), 10 ** 59] + [bool(number)] * (number in (0, 1))


def forged(paper):
    """Things that are like a paper but in one part of it."""
    seed, path, place, numbers = paper
    found = [None, True, 0, "", [], (), {}, list(paper), paper[:3], paper[:2], paper + (0,), paper[::-1], (paper,), Plus(1)]
    found += [(other, path, place, numbers) for other in forged_numbers(seed)]
    found += [(seed, path, other, numbers) for other in forged_numbers(place)]
    found += [(seed, other, place, numbers) for other in (list(path), path + (0,), path[:-1] if path else (0,), None, 0, "", {})]
    for at, number in enumerate(path):
        found += [(seed, path[:at] + (other,) + path[at + 1:], place, numbers) for other in forged_numbers(number)]
    for other in (list(numbers), numbers + (0,), numbers[:-1], numbers[1:], (), None, 0, "", {}, numbers + numbers[-1:], (numbers,)):
        found.append((seed, path, place, other))
    for at, number in enumerate(numbers):
        found += [(seed, path, place, numbers[:at] + (other,) + numbers[at + 1:]) for other in forged_numbers(number)]
    return found


class Checking(Case):
    def test_every_paper_of_a_taking_is_let_by_with_its_outcome_and_no_other_one(self):
        own = machine()
        for shape in SHAPES:
            outcomes = [outcome for outcome, many in shape.all_outcomes()]
            for outcome, paper in takings(own, shape):
                self.same(is_paper(own, shape, paper, outcome), True)
                for other in outcomes:
                    self.same(is_paper(own, shape, paper, other), other == outcome)

    def test_outcomes_of_other_kinds(self):
        own = machine()
        for shape in SHAPES:
            for outcome, paper in takings(own, shape)[::7]:
                for thing in [None, True, False, "", str(outcome), [outcome], (outcome,), {}, -1, 10 ** 59, Plus(1), shape]:
                    self.same(is_paper(own, shape, paper, thing), False)
                if isinstance(outcome, tuple):
                    for thing in (list(outcome), outcome + (0,), outcome[:-1] if outcome else (0,)):
                        self.same(is_paper(own, shape, paper, thing), False)
                    for at, part in enumerate(outcome):
                        for other in ([bool(part)] if part in (0, 1) else []) + [None, [part], list(part) if isinstance(part, tuple) else -1]:
                            self.same(is_paper(own, shape, paper, outcome[:at] + (other,) + outcome[at + 1:]), False)

    def test_forged_in_each_part(self):
        own = machine()
        seen = 0
        for shape in SHAPES:
            for outcome, paper in takings(own, shape)[::5]:
                for thing in forged(paper):
                    seen += 1
                    self.same(is_paper(own, shape, thing, outcome), False)
        self.assertGreater(seen, 5000)

    def test_no_paper_but_the_due_one_is_let_by(self):
        # Over all numbers there are: of one place's draw and the next one's only the true ones are let by.
        own = Machine(1, 1, 0, 3, [Times(5), Fold(2)])
        shape = Below(9)
        let_by = []
        for place in range(8):
            for number in range(16):
                for outcome in range(9):
                    if is_paper(own, shape, (1, (), place, (number,)), outcome):
                        let_by.append((outcome, (1, (), place, (number,))))
                    for second in range(16):
                        if is_paper(own, shape, (1, (), place, (number, second)), outcome):
                            let_by.append((outcome, (1, (), place, (number, second))))
        due = []
        for place in range(8):
            try:
                outcome, behind, paper = taken(first_hand(own, 1).jumped(place), shape)
                due.append((outcome, paper))
            except Spent:
                pass
        self.assertTrue(any(len(paper[3]) == 2 for outcome, paper in due))
        self.assertEqual(sorted(let_by), sorted(row for row in due if len(row[1][3]) <= 2))

    def test_numbers_that_go_on_behind_the_outcome(self):
        own = machine()
        for outcome, paper in takings(own, Below(65)):
            seed, path, place, numbers = paper
            behind = place + len(numbers)
            if behind < 8:
                longer = numbers + (own.state(seed, path, behind),)
                again = Below(65).of(longer[-1], 7)
                self.same(is_paper(own, Below(65), (seed, path, place, longer), outcome), False)
                self.same(is_paper(own, Below(65), (seed, path, place, longer), again), False)
            for many in range(1, len(numbers)):
                self.same(is_paper(own, Below(65), (seed, path, place, numbers[:many]), outcome), False)
                self.same(is_paper(own, Below(65), (seed, path, place, numbers[:many]), None), False)
                self.same(is_paper(own, Below(65), (seed, path, place + many, numbers[many:]), outcome), True)

    def test_at_the_last_place_and_beyond(self):
        own = machine()
        number = own.state(1, (), 7)
        self.same(is_paper(own, Below(128), (1, (), 7, (number,)), number), True)
        self.same(is_paper(own, Below(128), (1, (), 8, (number,)), number), False)
        self.same(is_paper(own, Below(128), (1, (), 8, ()), number), False)
        self.same(is_paper(own, Below(1), (1, (), 7, (number, number)), 0), False)
        self.same(is_paper(own, Below(1), (1, (), 0, tuple(own.state(1, (), 0) for k in range(300))), 0), False)

    def test_what_the_machine_has_not(self):
        own = machine()
        for paper in ((4, (), 0, (0,)), (-1, (), 0, (0,)), (0, (3,), 0, (0,)), (0, (0, 0), 0, (0,)), (0, (-1,), 0, (0,)), (0, (), -1, (0,))):
            for outcome in (0, None):
                self.same(is_paper(own, Below(1), paper, outcome), False)
        outcome, paper = takings(own, Below(6))[0]
        self.same(is_paper(Machine(2, 2, 1, 3), Below(6), paper, outcome), False)

    def test_a_shape_that_is_too_wide(self):
        own = machine()
        for shape in (Below(129), Below(2 ** 64), Orders(6), Sets(60, 30)):
            for outcome, paper in takings(own, Below(128))[::9]:
                self.same(is_paper(own, shape, paper, outcome), False)
                self.same(is_paper(own, shape, paper, shape.outcome(0)), False)
            self.same(is_paper(own, shape, None, None), False)

    def test_papers_of_a_shuffle(self):
        own = Machine(4, 2, 2, 8, STEPS)
        for seed in range(4):
            row, behind, papers = shuffled(first_hand(own, seed), list(range(20)))
            for k, paper in enumerate(papers):
                right = [number for number in range(20 - k) if is_paper(own, Below(20 - k), paper, number)]
                self.assertEqual(len(right), 1)
                self.same(is_paper(own, Below(20 - k), paper[:2] + (paper[2] + 1,) + paper[3:], right[0]), False)

    def test_a_paper_with_as_many_numbers_as_there_are_places(self):
        # The states of the seed 0 rise from place to place, thrown all of them; the last one alone begins anew, at 0.
        own = Machine(8, 1, 0, 10, [Plus(2 ** 18 - 1023)])
        shape = Below(2 ** 17 + 1)
        outcome, behind, paper = taken(first_hand(own, 0), shape)
        self.same((outcome, behind.place, len(paper[3])), (0, 1024, 1024))
        self.same(is_paper(own, shape, paper, 0), True)
        self.same(is_paper(own, shape, (0, (), 0, paper[3][:-1]), 0), False)
        self.same(is_paper(own, shape, (0, (), 1, paper[3][1:]), 0), True)
        self.refused(NoPaper, [paper], show_paper, paper)
        less = Machine(8, 1, 0, 10, [Plus(2 ** 18 - 1024)])
        self.refused(Spent, [(), 0], taken, first_hand(less, 0), shape)


class Writing(Case):
    def test_the_documents_examples(self):
        self.same(show_paper((5, (2, 0), 0, (17, 3))), "paper 5 0 : 2 0 : 17 3")
        self.same(show_paper((5, (), 0, (17,))), "paper 5 0 : : 17")
        self.same(read_paper("paper 5 0 : 2 0 : 17 3"), (5, (2, 0), 0, (17, 3)))
        self.same(read_paper("paper 5 0 : : 17"), (5, (), 0, (17,)))

    def test_papers_of_takings(self):
        own = machine()
        for shape in SHAPES:
            for outcome, paper in takings(own, shape):
                self.same(read_paper(show_paper(paper)), paper)

    def test_at_and_beyond_the_bounds(self):
        most = (2 ** 32 - 1, (30,) * 6, 2 ** 16 - 1, (2 ** 64 - 1,) * 300)
        for paper in (most, (0, (), 0, (0,)), (0, (0,), 0, (0, 0))):
            self.same(read_paper(show_paper(paper)), paper)
        for at, other in (
            (0, 2 ** 32), (0, -1), (1, (30,) * 7), (1, (31,)), (1, (-1,)), (1, (0, 31)), (2, 2 ** 16), (2, -1), (3, ()),
            (3, (0,) * 301), (3, (2 ** 64,)), (3, (-1,)), (3, (0, 2 ** 64)), (1, [0]), (3, [0]), (1, None), (3, None), (1, 5), (3, 5),
        ):
            paper = most[:at] + (other,) + most[at + 1:]
            self.refused(NoPaper, [paper], show_paper, paper)

    def test_things_that_are_no_papers(self):
        right = (5, (2, 0), 0, (17, 3))
        for thing in no_whole_numbers() + [0, 5, "paper 5 0 : : 17", list(right), right[:3], right + (0,), (right,), right[::-1]]:
            self.refused(NoPaper, [thing], show_paper, thing)
        for wrong in no_whole_numbers():
            for at in (0, 2):
                paper = right[:at] + (wrong,) + right[at + 1:]
                self.refused(NoPaper, [paper], show_paper, paper)
            for paper in (
                (5, (wrong, 0), 0, (17, 3)), (5, (2, wrong), 0, (17, 3)), (5, (2, 0), 0, (wrong, 3)), (5, (2, 0), 0, (17, wrong)),
            ):
                self.refused(NoPaper, [paper], show_paper, paper)


def plain(word, most):
    return word.isascii() and word.isdigit() and len(word) < 30 and str(int(word)) == word and int(word) <= most


def first_wrong(words):
    """The number that a refusal tells, or None where the words are a paper's."""
    signs = 0
    many = 0
    for at, word in enumerate(words):
        if at == 0:
            right = word == "paper"
        elif at in (1, 2):
            right = plain(word, 2 ** 32 - 1 if at == 1 else 2 ** 16 - 1)
        elif at == 3:
            right = word == ":"
            signs = 1
        elif signs == 1 and word == ":":
            right, signs, many = True, 2, 0
        else:
            many += 1
            right = plain(word, 30 if signs == 1 else 2 ** 64 - 1) and many <= (6 if signs == 1 else 300)
        if not right:
            return at
    return None if signs == 2 and many > 0 else len(words)


class Reading(Case):
    def wrong(self, text, at):
        self.refused(NoText, [at], read_paper, text)

    def test_which_word_is_told(self):
        for text, at in (
            ("", 0), (" ", 0), ("paper", 1), ("paper ", 1), (" paper 5 0 : : 17", 0), ("paper 5", 2), ("paper 5 0", 3), ("paper 5 0 :", 4),
            ("paper 5 0 : :", 5), ("paper 5 0 : : ", 5), ("paper 5 0 : : 17 ", 6), ("paper 5 0 : 2", 5), ("paper 5 0 : 2 :", 6),
            ("paper  5 0 : : 17", 1), ("paper 5  0 : : 17", 2), ("paper 5 0  : : 17", 3), ("paper 5 0 :  : 17", 4), ("paper 5 0 : :  17", 5),
            ("paper 5 0 : : 17  3", 6), ("paper 5 0 : 2  0 : 17", 5), ("Paper 5 0 : : 17", 0), ("papers 5 0 : : 17", 0),
            ("hand 5 0 : : 17", 0), ("paper : 5 0 : : 17", 1), ("paper 5 : : 17", 2), ("paper 5 0 : 17", 5), ("paper 5 0 17", 3),
            ("paper 5 0 5 : : 17", 3), ("paper 5 0 : : :", 5), ("paper 5 0 : : 17 :", 6), ("paper 5 0 : : 17 : 3", 6),
            ("paper paper 5 0 : : 17", 1), ("paper 5 0 : : paper", 5), ("paper 5 0 : 2 x : 17", 5), ("paper 5 0 : : 17\n", 5),
            ("paper\n5 0 : : 17", 0), ("paper 5 0 :: 17", 3), ("paper 5 0 : ; 17", 4),
        ):
            self.wrong(text, at)

    def test_numbers_at_and_beyond_their_bounds(self):
        words = "paper 5 0 : 2 0 : 17 3".split(" ")
        for at, most in ((1, 2 ** 32 - 1), (2, 2 ** 16 - 1), (4, 30), (5, 30), (7, 2 ** 64 - 1), (8, 2 ** 64 - 1)):
            for number in (0, most):
                text = " ".join(words[:at] + [str(number)] + words[at + 1:])
                self.same(show_paper(read_paper(text)), text)
            for number in (most + 1, 10 ** 30, "00", "05", "+5", "-5", "", "x", "5.", "9" * 9000, "5\n"):
                self.wrong(" ".join(words[:at] + [str(number)] + words[at + 1:]), at)

    def test_the_seventh_number_of_a_path(self):
        self.same(read_paper("paper 5 0 : 1 2 3 4 5 6 : 7"), (5, (1, 2, 3, 4, 5, 6), 0, (7,)))
        self.wrong("paper 5 0 : 1 2 3 4 5 6 7 : 7", 10)
        self.wrong("paper 5 0 : 1 2 3 4 5 6", 10)
        self.wrong("paper 5 0 : 1 2 3 4 5 6 :", 11)
        self.wrong("paper 5 0 : 1 2 3 4 5 6 x", 10)

    def test_a_number_behind_300(self):
        text = "paper 5 0 : :" + " 8" * 300
        self.same(read_paper(text), (5, (), 0, (8,) * 300))
        self.wrong(text + " 8", 305)
        self.wrong(text + " ", 305)
        self.wrong(text + " 8 x", 305)

    def test_spoilt_texts(self):
        chance = random.Random(77)
        pool = ["paper", ":", "0", "1", "30", "31", "07", "", "x", str(2 ** 64 - 1), str(2 ** 64), str(2 ** 16), str(2 ** 32), str(2 ** 32 - 1)]
        seen = {"wrong": 0, "read": 0}
        for turn in range(4000):
            path = tuple(chance.randrange(31) for k in range(chance.choice((0, 1, 2, 6))))
            numbers = tuple(chance.randrange(2 ** 64) for k in range(chance.choice((1, 2, 3))))
            words = show_paper((chance.randrange(2 ** 32), path, chance.randrange(2 ** 16), numbers)).split(" ")
            at = chance.randrange(len(words) + 1)
            many = chance.randrange(2)
            words[at:at + many] = [chance.choice(pool)] * chance.randrange(2)
            text = " ".join(words)
            wrong = first_wrong(text.split(" "))
            if wrong is None:
                seen["read"] += 1
                self.same(show_paper(read_paper(text)), text)
            else:
                seen["wrong"] += 1
                self.wrong(text, wrong)
        self.assertTrue(all(many > 500 for many in seen.values()), seen)

    def test_things_that_are_no_texts(self):
        for thing in no_texts() + [["paper", "5"], (5, (), 0, (17,))]:
            self.wrong(thing, 0)


if __name__ == "__main__":
    unittest.main()
