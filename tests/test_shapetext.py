"""Point [67]: shapes read from words."""

import random
import unittest

from helpers import Case, no_texts
from splitseed.errors import NoText, TooWide
from splitseed.shapes import Below, Orders, Pair, Rows, Sets, Shares, shape_of
from splitseed.shapetext import read_shape

BIG = 2 ** 64


def plain(word):
    """The number that a word plainly writes, or -1."""
    return int(word) if word.isascii() and word.isdigit() and len(word) < 100 and str(int(word)) == word else -1


class Walk:
    """The words gone one by one, with the unfinished pairs and rows around them; slower and simpler than reading."""

    def __init__(self):
        self.around = []
        self.wanted = "shape"
        self.most = 0
        self.shares = []

    def ends(self):
        self.wanted = ")" if self.around else "end"
        return True

    def begins(self, word):
        if word in ("pair", "rows"):
            if len(self.around) == 3:
                return False
            self.around.append(2 if word == "pair" else 1)
            self.wanted = "(" if word == "pair" else "times"
            return True
        self.shares = []
        self.wanted = {"below": "bound", "orders": "orders", "sets": "many", "shares": "share"}.get(word, "")
        return self.wanted != ""

    def takes_share(self, word):
        if 0 <= plain(word) <= 1000000 and len(self.shares) < 60:
            self.shares.append(plain(word))
            return any(self.shares) or len(self.shares) < 60
        if not any(self.shares):
            return False
        self.ends()
        return self.takes(word)

    def takes(self, word):
        if self.wanted == "shape":
            return self.begins(word)
        if self.wanted == "share":
            return self.takes_share(word)
        if self.wanted == "bound":
            return 1 <= plain(word) <= BIG and self.ends()
        if self.wanted == "orders":
            return 0 <= plain(word) <= 20 and self.ends()
        if self.wanted == "many":
            self.most, self.wanted = plain(word), "size"
            return 0 <= plain(word) <= 60
        if self.wanted == "size":
            return 0 <= plain(word) <= self.most and self.ends()
        if self.wanted == "times":
            self.wanted = "("
            return 0 <= plain(word) <= 12
        if self.wanted == "(":
            self.wanted = "shape"
            return word == "("
        if self.wanted == ")":
            self.around[-1] -= 1
            if self.around[-1] == 1:
                self.wanted = "("
            else:
                self.around.pop()
                self.ends()
            return word == ")"
        return False

    def is_over(self):
        return not self.around and (self.wanted == "end" or self.wanted == "share" and any(self.shares))


def first_wrong(words):
    """The number that a refusal tells, or None where the words are a shape's."""
    walk = Walk()
    for at, word in enumerate(words):
        if not walk.takes(word):
            return at
    return None if walk.is_over() else len(words)


def some_told(chance, room):
    kind = chance.randrange(6 if room else 4)
    if kind == 0:
        return ("below", chance.choice([1, 2, 6, chance.randrange(1, 1000), BIG]))
    if kind == 1:
        zeros = (0,) * chance.choice([0, 0, 1, 3, 58])
        return ("shares", zeros + tuple(chance.choice([1, 5, 0, 1000000]) for k in range(chance.randrange(2))) + (2,))
    if kind == 2:
        return ("orders", chance.choice([0, 1, 5, 20]))
    if kind == 3:
        many = chance.choice([0, 1, 60, chance.randrange(12)])
        return ("sets", many, chance.choice([0, many, chance.randrange(many + 1)]))
    if kind == 4:
        return ("pair", some_told(chance, room - 1), some_told(chance, room - 1))
    return ("rows", some_told(chance, room - 1), chance.choice([0, 1, 2, 12]))


def words_of(told):
    if told[0] == "pair":
        return ["pair", "("] + words_of(told[1]) + [")", "("] + words_of(told[2]) + [")"]
    if told[0] == "rows":
        return ["rows", str(told[2]), "("] + words_of(told[1]) + [")"]
    return [told[0]] + [str(part) for part in (told[1] if told[0] == "shares" else told[1:])]


class Reading(Case):
    def reads(self, text, shape):
        found = read_shape(text)
        self.assertIs(type(found), type(shape))
        self.same(found.told(), shape.told())
        self.same(found.words(), text)

    def wrong(self, text, at):
        self.refused(NoText, [at], read_shape, text)

    def wide(self, text, total):
        self.refused(TooWide, [total], read_shape, text)

    def test_the_documents_examples(self):
        self.reads("below 6", Below(6))
        self.reads("shares 3 1 2", Shares([3, 1, 2]))
        self.reads("orders 4", Orders(4))
        self.reads("sets 5 2", Sets(5, 2))
        self.reads("pair ( below 6 ) ( orders 3 )", Pair(Below(6), Orders(3)))
        self.reads("rows 3 ( below 2 )", Rows(Below(2), 3))

    def test_written_and_read_back(self):
        chance = random.Random(67)
        read = 0
        for turn in range(600):
            told = some_told(chance, 3)
            text = " ".join(words_of(told))
            try:
                shape = shape_of(told)
            except TooWide as refusal:
                self.wide(text, refusal.total)
                continue
            read += 1
            self.same(shape.words(), text)
            self.reads(text, shape)
        self.assertGreater(read, 200)

    def test_numbers_at_and_beyond_their_bounds(self):
        for text in (
            "below 1", f"below {BIG}", "shares 1", "shares 1000000", "shares 0 1", "shares 1 0", "orders 0", "orders 20",
            "sets 0 0", "sets 60 0", "sets 60 60", "sets 5 5", "rows 0 ( below 2 )", "rows 12 ( below 2 )",
        ):
            self.same(read_shape(text).words(), text)
        for text, at in (
            ("below 0", 1), (f"below {BIG + 1}", 1), ("below 1" + "0" * 30, 1), ("shares 1000001", 1), ("shares 1 1000001", 2),
            ("shares 1 2 1000001 3", 3), ("orders 21", 1), ("orders 100", 1), ("sets 61 0", 1), ("sets 60 61", 2),
            ("sets 5 6", 2), ("sets 0 1", 2), ("rows 13 ( below 2 )", 1), ("rows 0 ( below 0 )", 4), ("rows 1 ( orders 21 )", 4),
            ("pair ( below 0 ) ( below 0 )", 3), ("pair ( below 1 ) ( below 0 )", 7), (f"pair ( below {BIG + 1} ) x", 3),
        ):
            self.wrong(text, at)

    def test_numbers_not_plainly_written(self):
        for number in ("07", "00", "+7", "-7", "", "7.", "x", "1" * 9000, "5\n", "\n5", "below", "(", ")", "1_0"):
            self.wrong(f"below {number}", 1)
            self.wrong(f"shares {number}", 1)
            self.wrong(f"shares 3 {number}", 2)
            self.wrong(f"shares 0 {number}", 2)
            self.wrong(f"orders {number}", 1)
            self.wrong(f"sets {number} 0", 1)
            self.wrong(f"sets 5 {number}", 2)
            self.wrong(f"rows {number} ( below 2 )", 1)
            self.wrong(f"rows 2 ( below {number} )", 4)

    def test_blanks(self):
        for text, at in (
            ("", 0), (" ", 0), ("  ", 0), (" below 6", 0), ("below 6 ", 2), ("below  6", 1), ("below ", 1), ("shares 3  1", 2),
            ("shares 3 1 ", 3), ("shares  3", 1), ("sets 5  2", 2), ("pair  ( below 6 ) ( orders 3 )", 1), ("\n", 0),
            ("pair (  below 6 ) ( orders 3 )", 2), ("pair ( below 6  ) ( orders 3 )", 4), ("pair ( below 6 )  ( orders 3 )", 5),
            ("pair ( below 6 ) ( orders 3 ) ", 9), ("rows 3 ( below 2 )\n", 5), ("below\n6", 0), ("rows  3 ( below 2 )", 1),
            ("pair (below 6) (orders 3)", 1), ("pair ( shares 3 1  ) ( orders 3 )", 5), ("rows 3 ( shares 1 2) )", 5),
        ):
            self.wrong(text, at)

    def test_words_left_out(self):
        for text, at in (
            ("below", 1), ("shares", 1), ("shares 0", 2), ("shares 0 0", 3), ("orders", 1), ("sets", 1), ("sets 5", 2),
            ("pair", 1), ("pair (", 2), ("pair ( below", 3), ("pair ( below 6", 4), ("pair ( below 6 )", 5), ("rows", 1),
            ("pair ( below 6 ) (", 6), ("pair ( below 6 ) ( orders 3", 8), ("rows 3", 2), ("rows 3 (", 3), ("rows 3 ( below 2", 5),
            ("pair ( shares 0", 4), ("pair ( shares 3", 4), ("rows 3 ( sets 5", 5), ("rows ( below 2 )", 1), ("pair below 6", 1),
            ("rows 3 below 2 )", 2), ("pair ( below 6 ) orders 3 )", 5), ("pair ( below 6 ( orders 3 ) )", 4), ("sets 5 )", 2),
            ("pair ( ) ( below 6 )", 2), ("rows 3 ( )", 3), ("( below 6 )", 0), ("6", 0),
        ):
            self.wrong(text, at)

    def test_words_put_in_and_said_twice(self):
        for text, at in (
            ("below 6 6", 2), ("below below 6", 1), ("below 6 below 6", 2), ("orders 4 4", 2), ("sets 5 2 2", 3), ("below 6 )", 2),
            ("pair ( ( below 6 ) ) ( orders 3 )", 2), ("pair ( below 6 ) ) ( orders 3 )", 5), ("pair pair ( below 6 )", 1),
            ("pair ( below 6 ) ( orders 3 ) ( orders 3 )", 9), ("pair ( below 6 ) ( orders 3 ) )", 9), ("rows 3 3 ( below 2 )", 2),
            ("rows 3 ( below 2 ) )", 6), ("rows 3 ( below 2 ) ( below 2 )", 6), ("shares 3 shares 1", 2), ("shares shares 3", 1),
            ("shares 3 1 )", 3), ("shares 3 1 x", 3), ("Below 6", 0), ("belows 6", 0), ("plus 6", 0), ("hand", 0), (")", 0),
            ("rows 3 ( below 2 ;", 5), ("sets 5 2 )", 3), ("pair ( shares 3 ) x", 5), ("pair ( shares 3 x", 4), ("house", 0),
        ):
            self.wrong(text, at)

    def test_the_sixtieth_share(self):
        for ahead in (["0"] * 59, ["1"] * 59, ["0"] * 58 + ["7"]):
            text = " ".join(["shares"] + ahead + ["5"])
            self.reads(text, Shares([int(share) for share in ahead] + [5]))
            self.wrong(text + " 5", 61)
            self.wrong(text + " 0", 61)
            self.wrong(text + " )", 61)
            self.wrong(f"rows 1 ( {text} 5 )", 64)
            self.same(read_shape(f"rows 1 ( {text} )").words(), f"rows 1 ( {text} )")
        zeros = " ".join(["shares"] + ["0"] * 59)
        self.reads(zeros + " 1", Shares([0] * 59 + [1]))
        self.wrong(zeros + " 0", 60)
        self.wrong(zeros + " 0 1", 60)
        self.wrong(zeros, 60)
        self.wrong(zeros + " )", 60)
        self.wrong(f"pair ( {zeros} 0 ) ( below 0 )", 62)
        self.wrong(" ".join(["shares"] + ["0"] * 58 + ["x"]), 59)
        self.same(read_shape(" ".join(["shares"] + ["1"] * 59 + ["0"])).numbers(), 59)

    def test_all_shares_0(self):
        self.wrong("shares 0 )", 2)
        self.wrong("rows 2 ( shares 0 0 )", 6)
        self.reads("rows 2 ( shares 0 1 )", Rows(Shares([0, 1]), 2))
        self.reads("rows 2 ( shares 1 0 )", Rows(Shares([1, 0]), 2))

    def test_levels(self):
        self.reads("rows 1 ( rows 1 ( rows 1 ( below 2 ) ) )", Rows(Rows(Rows(Below(2), 1), 1), 1))
        self.wrong("rows 1 ( rows 1 ( rows 1 ( rows 1 ( below 2 ) ) ) )", 9)
        self.wrong("rows 1 ( rows 1 ( rows 1 ( pair ( below 2 ) ( below 2 ) ) ) )", 9)
        self.wrong("pair ( pair ( pair ( pair", 6)
        self.wrong("pair ( pair ( pair ( rows", 6)
        self.wrong("pair ( pair ( pair ( below 2 ) ( rows", 10)
        self.reads(
            "pair ( below 2 ) ( pair ( pair ( below 2 ) ( below 3 ) ) ( rows 2 ( below 2 ) ) )",
            Pair(Below(2), Pair(Pair(Below(2), Below(3)), Rows(Below(2), 2))),
        )
        self.wrong("pair ( below 2 ) ( pair ( pair ( below 2 ) ( rows 2 ( below 2 ) ) )", 14)

    def test_too_wide_comes_behind_the_text(self):
        great = f"below {BIG}"
        self.wide(f"pair ( {great} ) ( below 2 )", 2 * BIG)
        self.wide(f"rows 12 ( {great} )", BIG ** 12)
        self.wide(f"rows 0 ( rows 2 ( {great} ) )", BIG ** 2)
        self.wide(f"pair ( rows 2 ( {great} ) ) ( pair ( {great} ) ( below 3 ) )", BIG ** 2)
        self.wide(f"pair ( below 2 ) ( pair ( {great} ) ( below 3 ) )", 3 * BIG)
        self.wrong(f"pair ( {great} ) ( below 2 ) )", 9)
        self.wrong(f"pair ( {great} ) ( below 2 ", 8)
        self.wrong(f"pair ( {great} ) ( below 0 )", 7)
        self.wrong(f"rows 2 ( {great}", 5)
        self.reads(f"rows 0 ( {great} )", Rows(Below(BIG), 0))

    def test_spoilt_texts(self):
        chance = random.Random(68)
        pool = "below shares orders sets pair rows ( ) 0 1 2 5 07 12 13 20 21 60 61 1000000 1000001".split()
        pool += ["", str(BIG), str(BIG + 1), "x"]
        refused = 0
        for turn in range(4000):
            words = words_of(some_told(chance, 3))
            for spoil in range(chance.randrange(1, 3)):
                at = chance.randrange(len(words) + 1)
                many = chance.randrange(2)
                words[at:at + many] = [chance.choice(pool)] * chance.randrange(2)
            if chance.randrange(6) == 0:
                words = words[:chance.randrange(len(words) + 1)]
            text = " ".join(words)
            at = first_wrong(text.split(" "))
            if at is not None:
                refused += 1
                self.wrong(text, at)
                continue
            try:
                self.same(read_shape(text).words(), text)
            except TooWide as refusal:
                self.assertGreater(refusal.total, BIG)
        self.assertGreater(refused, 2000)

    def test_every_beginning_of_a_text(self):
        chance = random.Random(69)
        for turn in range(100):
            words = words_of(some_told(chance, 3))
            for many in range(1, len(words)):
                at = first_wrong(words[:many])
                self.assertIn(at, (None, many))
                if at is not None:
                    self.wrong(" ".join(words[:many]), many)

    def test_things_that_are_no_texts(self):
        for thing in no_texts() + [["below", "6"], ("below", 6), Below(6)]:
            self.refused(NoText, [0], read_shape, thing)


if __name__ == "__main__":
    unittest.main()
