"""Point [46]: hands written and read."""

import random
import unittest

from helpers import Case, no_texts
from splitseed.chains import Back, Chain
from splitseed.errors import NoHand, NoText
from splitseed.hands import first_hand, hand_of, same_hand
from splitseed.handtext import read_hand, show_hand
from splitseed.machines import Machine
from splitseed.steps import Fold, Plus, Times, Turn

THIRTY = 10 ** 30 - 1


def machines():
    """Machines with steps and without, one without depth, and the greatest sizes."""
    return [
        Machine(3, 3, 2, 4), Machine(3, 3, 2, 4, [Plus(11), Times(13), Back(Chain([Fold(2), Turn(3)]))]),
        Machine(0, 1, 0, 4), Machine(32, 5, 3, 16, [Times(40503)]), Machine(8, 1, 6, 16), Machine(18, 5, 6, 16, [Fold(9)]),
    ]


def some_hand(chance, machine):
    """A hand that came by deeds of all kinds."""
    hand = first_hand(machine, chance.randrange(machine.seeds()))
    for level in range(chance.randrange(machine.depth + 1)):
        hand = hand.jumped(chance.choice([0, hand.left_over(), chance.randrange(hand.left_over() + 1)]))
        for times in range(2):
            room = min(31, machine.parts() - hand.given)
            if room > 0:
                parts, hand = hand.parted(chance.randrange(1, room + 1))
        hand = chance.choice(parts)
    if len(hand.path) < machine.depth and chance.randrange(2) == 1:
        hand = hand.parted(chance.randrange(1, min(31, machine.parts()) + 1))[1]
    return hand.jumped(chance.choice([0, hand.left_over(), chance.randrange(hand.left_over() + 1)]))


def first_wrong(words):
    """The number that NoText tells, or None; the words are looked at by what has to follow what."""
    due = ["hand", "n", "n", "n"]
    for at, word in enumerate(words):
        if not due:
            due = [":", "n", "n", "n", "n"]
        wanted = due.pop(0)
        if wanted == "n":
            right = word.isascii() and word.isdigit() and len(word) <= 30 and str(int(word)) == word
        else:
            right = word == wanted
        if not right:
            return at
    return len(words) if due else None


def told_of(words):
    """The tuple that right words tell."""
    blocks = [[int(word) for word in block.split()] for block in " ".join(words[1:]).split(":")]
    seed, place, given = blocks[0]
    return (seed, tuple(block[0] for block in blocks[1:]), place, given, tuple(tuple(block[1:]) for block in blocks[1:]))


class Writing(Case):
    def test_the_documents_examples(self):
        machine = Machine(3, 3, 2, 4)
        hand = first_hand(machine, 5).jumped(3)
        parts, behind = hand.parted(2)
        self.same(show_hand(behind), "hand 5 3 2")
        self.same(show_hand(parts[1]), "hand 5 0 0 : 1 3 0 2")

    def test_deeper_hands(self):
        machine = Machine(3, 3, 3, 4)
        second = first_hand(machine, 7).jumped(16).parted(2)[1].parted(3)[0][2]
        self.same(show_hand(second), "hand 7 0 0 : 4 16 2 3")
        third = second.jumped(1).parted(1)[0][0].jumped(9).parted(7)[1]
        self.same(show_hand(third), "hand 7 9 7 : 4 16 2 3 : 0 1 0 1")

    def test_written_and_read_again(self):
        chance = random.Random(46)
        for machine in machines():
            for turn in range(60):
                hand = some_hand(chance, machine)
                text = show_hand(hand)
                found = read_hand(machine, text)
                self.assertIs(found.machine, machine)
                self.assertTrue(same_hand(found, hand))
                self.same(found.told(), hand.told())
                self.same(show_hand(found), text)
                # A hand that was written and read goes on alike.
                many = min(3, hand.left_over())
                self.same(found.draws(many)[0], hand.draws(many)[0])


class Reading(Case):
    def wrong(self, machine, text, at):
        self.refused(NoText, [at], read_hand, machine, text)

    def none_such(self, machine, text, told):
        self.refused_alike(NoHand, [told], read_hand, machine, text)

    def test_things_that_are_no_texts(self):
        for machine in machines():
            for thing in no_texts() + [["hand", "5", "3", "2"], first_hand(machine, 0), first_hand(machine, 0).told()]:
                self.wrong(machine, thing, 0)

    def test_words_left_out_and_said_twice(self):
        machine = Machine(3, 3, 3, 4)
        text = "hand 5 0 0 : 1 3 0 2 : 4 16 2 3"
        words = text.split(" ")
        self.same(show_hand(read_hand(machine, text)), text)
        for at in range(len(words)):
            for spoilt in (words[:at] + words[at + 1:], words[:at] + words[at:at + 1] + words[at:]):
                # Numbers move up, so the wrong place shows at the next sign, or at the end.
                self.wrong(machine, " ".join(spoilt), first_wrong(spoilt))
        for at, word in enumerate(words[:4]):
            self.assertEqual(first_wrong(words[:at] + words[at + 1:]), 0 if at == 0 else 3)

    def test_which_word_is_told(self):
        machine = Machine(3, 3, 2, 4)
        for text, at in (
            ("", 0), (" ", 0), ("hand", 1), ("hand ", 1), (" hand 5 3 2", 0), ("hand  5 3 2", 1), ("hand 5 3 2 ", 4),
            ("hand 5  3 2", 2), ("hand 5 3", 3), ("hand 5 3 ", 3), ("hand 5", 2), ("Hand 5 3 2", 0), ("hands 5 3 2", 0),
            ("hand hand 5 3 2", 1), ("hand 5 3 2 2", 4), ("hand 5 3 2 :", 5), ("hand 5 3 2 : ", 5), ("hand 5 3 2 : 1", 6),
            ("hand 5 3 2 : 1 3", 7), ("hand 5 3 2 : 1 3 0", 8), ("hand 5 3 2 : 1 3 0 2 :", 10), ("hand 5 3 2 : :", 5),
            ("hand 5 3 2 : 1 3 0 2 2", 9), ("hand 5 3 2 : 1 3 0 2  : 1 3 0 2", 9), ("hand 5 3 2 1 3 0 2", 4),
            ("hand 5 3 2 ; 1 3 0 2", 4), ("hand : 5 3 2", 1), ("hand 5 3 :", 3), ("hand 5 3 2: 1 3 0 2", 3),
            ("hand 5 3 2 :1 3 0 2", 4), ("hand 5 3 2\n", 3), ("hand\n5 3 2", 0), ("paper 5 3 2", 0), ("5 3 2", 0),
            ("hand 5 3 2 : 1 3 0 2 : 1 3 0 x : ", 13), ("x 5 3 x", 0), ("hand 5 x x", 2),
        ):
            self.wrong(machine, text, at)

    def test_numbers_not_plainly_written(self):
        machine = Machine(3, 3, 2, 4)
        words = "hand 5 0 0 : 1 3 0 2".split(" ")
        for at in (1, 2, 3, 5, 6, 7, 8):
            for number in ("00", "01", "+1", "-1", "-0", "", "1.", "one", "1\n", ":", "hand", "0x1", "1_0", "9" * 10000):
                self.wrong(machine, " ".join(words[:at] + [number] + words[at + 1:]), at)
            self.wrong(machine, " ".join(words[:at] + [str(THIRTY + 1)] + words[at + 1:]), at)
            # Thirty figures are a number as any other; no hand has it.
            great = words[:at] + [str(THIRTY)] + words[at + 1:]
            self.none_such(machine, " ".join(great), told_of(great))

    def test_numbers_at_and_beyond_their_bounds(self):
        machine = Machine(3, 3, 2, 4, [Times(5)])
        for text in (
            "hand 0 0 0", "hand 7 16 7", "hand 7 16 7 : 6 16 0 7", "hand 7 16 7 : 6 0 6 1", "hand 0 0 0 : 0 0 0 1 : 6 16 0 7",
        ):
            self.same(show_hand(read_hand(machine, text)), text)
        for text in (
            "hand 8 0 0", "hand 0 17 0", "hand 0 0 8", "hand 0 0 0 : 7 0 0 7", "hand 0 0 0 : 0 17 0 7", "hand 0 0 0 : 0 0 0 0",
            "hand 0 0 0 : 6 0 0 8", "hand 0 0 0 : 6 0 1 7", "hand 0 0 0 : 0 0 1 2", "hand 0 0 0 : 3 0 1 2",
            "hand 0 0 0 : 0 0 0 32", "hand 0 0 1 : 0 0 0 1 : 0 0 0 1", "hand 0 0 0 : 0 0 0 1 : 0 0 0 1 : 0 0 0 1",
        ):
            self.none_such(machine, text, told_of(text.split(" ")))
        self.none_such(Machine(0, 1, 0, 4), "hand 0 0 1", (0, (), 0, 1, ()))
        self.none_such(Machine(0, 1, 0, 4), "hand 0 0 0 : 0 0 0 1", (0, (0,), 0, 0, ((0, 0, 1),)))
        self.same(show_hand(read_hand(Machine(0, 1, 0, 4), "hand 0 16 0")), "hand 0 16 0")

    def test_what_no_hand_is_comes_behind_what_is_no_text(self):
        machine = Machine(3, 3, 2, 4)
        self.wrong(machine, "hand 8 99 99 : 77 0 0 x", 8)
        self.wrong(machine, "hand 8 99 99 :", 5)
        self.none_such(machine, "hand 8 99 99 : 77 1 2 3", (8, (77,), 99, 99, ((1, 2, 3),)))
        many = "hand 0 0 0" + " : 0 0 0 1" * 150
        self.none_such(machine, many, (0, (0,) * 150, 0, 0, ((0, 0, 1),) * 150))
        self.wrong(machine, many + " : 0 0 0", 4 + 5 * 150 + 4)

    def test_spoilt_texts(self):
        chance = random.Random(47)
        pool = ["hand", ":", "0", "1", "2", "7", "8", "31", "00", "", "x", str(THIRTY), str(THIRTY + 1)]
        seen = {"text": 0, "hand": 0, "read": 0}
        for turn in range(4000):
            machine = chance.choice(machines()[:2])
            words = show_hand(some_hand(chance, machine)).split(" ")
            at = chance.randrange(len(words) + 1)
            many = chance.choice((0, 1, 1, 1))
            words[at:at + many] = [chance.choice(pool)] * chance.choice((0, 1, 1, 1))
            words = " ".join(words).split(" ")
            wrong = first_wrong(words)
            if wrong is not None:
                seen["text"] += 1
                self.wrong(machine, " ".join(words), wrong)
                continue
            told = told_of(words)
            try:
                wanted = hand_of(machine, told)
            except NoHand:
                seen["hand"] += 1
                self.none_such(machine, " ".join(words), told)
            else:
                seen["read"] += 1
                self.assertTrue(same_hand(read_hand(machine, " ".join(words)), wanted))
        self.assertTrue(all(many > 200 for many in seen.values()), seen)


if __name__ == "__main__":
    unittest.main()
