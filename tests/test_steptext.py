"""Point [25]: steps read from words."""

import random
import unittest

from helpers import Case, no_texts
from splitseed.chains import Back, Chain
from splitseed.errors import NoText
from splitseed.steps import Cross, Fold, Lean, Plus, Rise, Times, Turn
from splitseed.steptext import read_step

BIG = 2 ** 64


def number_stands(word, number):
    if not number.isdigit() or not number.isascii() or number != str(int(number)):
        return False
    if word in ("fold", "rise", "turn"):
        return 1 <= int(number) <= 63
    return int(number) < BIG and (word != "times" or int(number) % 2 == 1)


class Walk:
    """The words gone one by one, with what is still unfinished around them; slower and simpler than reading."""

    def __init__(self):
        self.around = []
        self.wanted = "step"
        self.word = ""

    def end_step(self):
        while self.around and self.around[-1] == "back":
            self.around.pop()
        if not self.around:
            self.wanted = "end"
        else:
            self.around[-1] += 1
            self.wanted = "sign"

    def begins_step(self, word):
        levels = 4 - len(self.around)
        if word == "back" and levels > 1:
            self.around.append("back")
            self.wanted = "step"
        elif word == "chain" and levels > 0:
            self.wanted = "("
        elif word in ("plus", "times", "cross", "fold", "rise", "turn", "lean") and levels > 0:
            self.word = word
            self.wanted = "number"
        else:
            return False
        return True

    def takes(self, word):
        if self.wanted == "number":
            if not number_stands(self.word, word):
                return False
            self.end_step()
        elif self.wanted == "(":
            if word != "(":
                return False
            self.around.append(0)
            self.wanted = "first"
        elif word == ")" and self.wanted in ("first", "sign"):
            self.around.pop()
            self.end_step()
        elif self.wanted == "sign":
            if word != ";" or self.around[-1] == 12:
                return False
            self.wanted = "step"
        else:
            return self.wanted != "end" and self.begins_step(word)
        return True


def first_wrong(words):
    """The number that a refusal tells, or None where the words are a step's."""
    walk = Walk()
    for at, word in enumerate(words):
        if not walk.takes(word):
            return at
    return None if walk.wanted == "end" else len(words)


def some_step(chance, levels):
    choice = chance.randrange(10)
    if levels > 1 and choice == 0:
        return Back(some_step(chance, levels - 1))
    if levels > 1 and choice in (1, 2, 3):
        return Chain([some_step(chance, levels - 1) for many in range(chance.choice((0, 1, 2, 3, 12)))])
    if choice == 4:
        return Chain([])
    big = chance.choice((0, 1, 7, BIG - 1, chance.randrange(BIG)))
    small = chance.choice((1, 63, chance.randrange(1, 64)))
    return chance.choice([Plus(big), Times(big | 1), Cross(big), Lean(big), Fold(small), Rise(small), Turn(small)])


class Reading(Case):
    def reads(self, text, step):
        found = read_step(text)
        self.assertIs(type(found), type(step))
        self.same(found.told(), step.told())
        self.same(found.words(), text)

    def wrong(self, text, at):
        self.refused(NoText, [at], read_step, text)

    def test_the_documents_examples(self):
        self.reads("back fold 3", Back(Fold(3)))
        self.reads("chain ( plus 5 ; back times 3 )", Chain([Plus(5), Back(Times(3))]))
        self.reads("chain ( )", Chain([]))

    def test_written_and_read_back(self):
        chance = random.Random(25)
        for turn in range(300):
            step = some_step(chance, 4)
            self.reads(step.words(), step)

    def test_simple_steps_at_their_ends(self):
        self.reads("plus 0", Plus(0))
        self.reads("times 1", Times(1))
        self.reads("cross 0", Cross(0))
        self.reads("lean 0", Lean(0))
        for word, kind in (("plus", Plus), ("times", Times), ("cross", Cross), ("lean", Lean)):
            self.reads(f"{word} {BIG - 1}", kind(BIG - 1))
            self.wrong(f"{word} {BIG}", 1)
            self.wrong(f"{word} {BIG + 1}", 1)
        for word, kind in (("fold", Fold), ("rise", Rise), ("turn", Turn)):
            self.reads(f"{word} 1", kind(1))
            self.reads(f"{word} 63", kind(63))
            for number in (0, 64, 65, BIG - 1):
                self.wrong(f"{word} {number}", 1)

    def test_even_numbers_behind_times(self):
        for number in (0, 2, 4, BIG - 2):
            self.wrong(f"times {number}", 1)
            self.wrong(f"chain ( plus 4 ; times {number} )", 6)

    def test_numbers_not_plainly_written(self):
        for number in ("07", "00", "+7", "-7", "", "7.", "x", "seven", "1" * 10000, "5\n", "\n5", "plus", "("):
            for word in ("plus", "times", "cross", "fold", "rise", "turn", "lean"):
                self.wrong(f"{word} {number}", 1)
                self.wrong(f"back {word} {number} 5", 2)

    def test_blanks(self):
        for text, at in (
            ("", 0), (" ", 0), ("  ", 0), (" plus 5", 0), ("plus 5 ", 2), ("plus  5", 1), ("plus ", 1),
            ("back  plus 5", 1), ("chain  ( )", 1), ("chain (  )", 2), ("chain ( ) ", 3), ("\n", 0), ("plus 5\n", 1),
            ("chain ( plus 5  ; plus 5 )", 4), ("chain ( plus 5 ;  plus 5 )", 5), ("chain ()", 1), ("plus\n5", 0),
            ("chain ( plus 5; plus 6 )", 3), ("chain( )", 0),
        ):
            self.wrong(text, at)

    def test_words_left_out(self):
        for text, at in (
            ("plus", 1), ("back", 1), ("back back", 2), ("back plus", 2), ("chain", 1), ("chain (", 2),
            ("chain ( plus", 3), ("chain ( plus 5", 4), ("chain ( plus 5 ;", 5), ("chain ( plus 5 ; back", 6),
            ("chain ( chain ( )", 5), ("back chain ( plus 5 ; plus 5", 8),
        ):
            self.wrong(text, at)
        self.wrong("chain ( ; plus 5 )", 2)
        self.wrong("chain ( plus 5 plus 5 )", 4)
        self.wrong("chain plus 5 )", 1)
        self.wrong("chain ( plus 5 ; )", 5)

    def test_words_put_in_and_said_twice(self):
        for text, at in (
            ("plus 5 5", 2), ("plus plus 5", 1), ("plus 5 plus 5", 2), ("plus 5 ;", 2), ("plus 5 )", 2), ("( plus 5 )", 0),
            ("chain ( ( ) )", 2), ("chain chain ( )", 1), ("chain ( ) )", 3), ("chain ( ) ;", 3), ("chain ( plus 5 ; ; )", 5),
            ("chain ( plus 5 ) plus", 5), ("5", 0), ("5 plus", 0), ("machine 1 1 1 1", 0), ("Plus 5", 0), ("plusx 5", 0),
            ("back", 1), ("back )", 1), ("back 5", 1), (";", 0), (")", 0), ("house", 0),
        ):
            self.wrong(text, at)

    def test_the_thirteenth_step_of_a_chain(self):
        twelve = " ; ".join(["plus 5"] * 12)
        self.reads(f"chain ( {twelve} )", Chain([Plus(5)] * 12))
        self.wrong(f"chain ( {twelve} ; plus 5 )", 2 + 35)
        self.wrong(f"chain ( {twelve} ;", 2 + 35)
        self.wrong(f"chain ( {twelve}", 2 + 35)
        self.wrong(f"chain ( chain ( {twelve} ; plus 5 ) )", 4 + 35)
        self.reads(f"chain ( chain ( {twelve} ) ; plus 1 )", Chain([Chain([Plus(5)] * 12), Plus(1)]))

    def test_the_fourth_level(self):
        self.reads("back back back plus 5", Back(Back(Back(Plus(5)))))
        self.reads("back back back chain ( )", Back(Back(Back(Chain([])))))
        self.reads("chain ( chain ( chain ( chain ( ) ; plus 5 ) ) )", Chain([Chain([Chain([Chain([]), Plus(5)])])]))
        self.wrong("back back back back plus 5", 3)
        self.wrong("back back back back", 3)
        self.wrong("back back back chain ( plus 5 )", 5)
        self.wrong("back back back chain ( chain ( ) )", 5)
        self.wrong("back back back chain ( ;", 5)
        self.wrong("back back back chain (", 5)
        self.wrong("back back back", 3)
        self.wrong("back back back plus", 4)
        self.wrong("chain ( chain ( chain ( back plus 5 ) ) )", 6)
        self.wrong("chain ( chain ( chain ( plus 1 ; back plus 5 ) ) )", 9)
        self.wrong("chain ( chain ( chain ( plus 1 ; chain ( plus 5 ) ) ) )", 11)
        self.reads("chain ( back back plus 5 ; plus 1 )", Chain([Back(Back(Plus(5))), Plus(1)]))
        self.wrong("chain ( back back back plus 5 )", 4)

    def test_spoilt_texts(self):
        chance = random.Random(26)
        pool = "plus times fold lean back chain ( ) ; 0 1 2 5 07 64 63".split() + ["", str(BIG), str(BIG - 1), "x"]
        refused = 0
        for turn in range(3000):
            words = some_step(chance, 4).words().split(" ")
            for spoil in range(chance.randrange(1, 3)):
                at = chance.randrange(len(words) + 1)
                many = chance.randrange(2)
                words[at:at + many] = [chance.choice(pool)] * chance.randrange(2)
            if chance.randrange(6) == 0:
                words = words[:chance.randrange(len(words) + 1)]
            text = " ".join(words)
            at = first_wrong(text.split(" "))
            if at is None:
                self.same(read_step(text).words(), text)
            else:
                refused += 1
                self.wrong(text, at)
        self.assertGreater(refused, 1000)

    def test_every_beginning_of_a_text(self):
        chance = random.Random(27)
        for turn in range(60):
            words = some_step(chance, 4).words().split(" ")
            for many in range(1, len(words)):
                self.wrong(" ".join(words[:many]), many)

    def test_things_that_are_no_texts(self):
        for thing in no_texts() + [["plus", "5"], ("plus", 5), Chain([])]:
            self.refused(NoText, [0], read_step, thing)


if __name__ == "__main__":
    unittest.main()
