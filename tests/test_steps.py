"""Points [21] to [26], as far as they tell of simple steps."""

import unittest

from helpers import Case, no_whole_numbers
from splitseed.errors import NoNumber, NoWidth
from splitseed.steps import Cross, Fold, Lean, Plus, Rise, Step, Times, Turn, opposite_of, opposites

BIG = 2 ** 64
BY_N = {"plus": Plus, "times": Times, "cross": Cross, "lean": Lean}
BY_K = {"fold": Fold, "rise": Rise, "turn": Turn}
NS = [0, 1, 2, 3, 5, 11, 16, 2 ** 32 + 1, 2 ** 63, 0x9E3779B97F4A7C15, BIG - 2, BIG - 1]
KS = [1, 2, 3, 4, 5, 6, 7, 8, 31, 32, 33, 62, 63]
WIDTHS = [4, 5, 6, 7, 31, 32, 33, 63, 64]
NO_WIDTHS = [3, 65, 0, -4, 10 ** 59]


def some_numbers(width):
    top = (1 << width) - 1
    pattern = int("1011001110001111" * 4, 2) & top
    return sorted({0, 1, 2, top, top - 1, top >> 1, (top >> 1) + 1, pattern, top ^ pattern, 5, 10})


def figures(number, width):
    """The figures of two, the highest one first."""
    return [number >> at & 1 for at in range(width - 1, -1, -1)]


def number_of(row):
    number = 0
    for figure in row:
        number = number * 2 + figure
    return number


def expected(word, by, number, width):
    """What the document tells of each step, figure by figure."""
    row = figures(number, width)
    size = 2 ** width
    if word == "plus":
        return (number + by) % size
    if word == "times":
        return (number * by) % size
    if word == "cross":
        return number_of([a ^ b for a, b in zip(row, figures(by % size, width))])
    if word == "fold":
        return number_of([row[at] ^ (row[at - by] if at >= by else 0) for at in range(width)])
    if word == "rise":
        return number_of([row[at] ^ (row[at + by] if at + by < width else 0) for at in range(width)])
    if word == "turn":
        return number_of(row[by % width:] + row[:by % width])
    half = width // 2
    high, low = row[:width - half], row[width - half:]
    change = figures(number_of(low) * by % 2 ** len(high), len(high))
    return number_of([a ^ b for a, b in zip(high, change)] + low)


def all_steps():
    """Each simple step with its word and its number."""
    rows = []
    for word, kind in BY_N.items():
        rows += [(word, n, kind(n)) for n in NS if word != "times" or n % 2]
    for word, kind in BY_K.items():
        rows += [(word, k, kind(k)) for k in KS]
    return rows


class Leading(Case):
    def test_onward_is_as_told_and_backward_undoes_it(self):
        for word, by, step in all_steps():
            for width in WIDTHS:
                for number in some_numbers(width):
                    led = step.onward(number, width)
                    self.same(led, expected(word, by, number, width))
                    self.same(step.backward(led, width), number)
                    self.same(step.onward(step.backward(number, width), width), number)

    def test_no_two_are_led_to_the_same_one(self):
        for word, by, step in all_steps():
            for width in (4, 5, 6):
                every = range(1 << width)
                self.assertEqual(sorted(step.onward(number, width) for number in every), list(every))
                self.assertEqual(sorted(step.backward(number, width) for number in every), list(every))
                for number in every:
                    self.same(step.onward(number, width), expected(word, by, number, width))
                    self.same(step.backward(step.onward(number, width), width), number)
                    self.same(step.onward(step.backward(number, width), width), number)

    def test_examples(self):
        self.same(Plus(5).onward(14, 4), 3)
        self.same(Plus(5).backward(3, 4), 14)
        self.same(Plus(BIG - 1).onward(0, 64), BIG - 1)
        self.same(Plus(BIG - 1).onward(0, 4), 15)
        self.same(Times(3).onward(7, 4), 5)
        self.same(Times(3).backward(5, 4), 7)
        self.same(Cross(0b10110).onward(0b1010, 4), 0b1100)
        self.same(Fold(1).onward(0b1000, 4), 0b1100)
        self.same(Fold(1).backward(0b1100, 4), 0b1000)
        self.same(Fold(1).backward(0b1000, 4), 0b1111)
        self.same(Rise(1).onward(0b0001, 4), 0b0011)
        self.same(Rise(1).backward(0b0001, 4), 0b1111)
        self.same(Turn(1).onward(0b1000, 4), 0b0001)
        self.same(Turn(1).backward(0b0001, 4), 0b1000)
        self.same(Turn(2).onward(0b10011, 5), 0b01110)
        self.same(Lean(1).onward(0b00011, 5), 0b01111)
        self.same(Lean(3).onward(0b00011, 5), 0b00111)

    def test_fold_and_rise_by_the_width_or_more_change_nothing(self):
        for width in (4, 5, 62, 63):
            for k in range(width, 64):
                for number in some_numbers(width):
                    for step in (Fold(k), Rise(k)):
                        self.same(step.onward(number, width), number)
                        self.same(step.backward(number, width), number)

    def test_fold_and_rise_by_one_less_than_the_width_change_one_figure(self):
        for width in (4, 5, 63, 64):
            top = (1 << width) - 1
            self.same(Fold(width - 1).onward(top, width), top - 1)
            self.same(Rise(width - 1).onward(top, width), top >> 1)

    def test_turn_at_below_and_above_the_width(self):
        for width in (4, 5, 63, 64):
            for number in some_numbers(width):
                if width < 64:
                    self.same(Turn(width).onward(number, width), number)
                    self.same(Turn(width).backward(number, width), number)
                if width < 63:
                    self.same(Turn(width + 1).onward(number, width), Turn(1).onward(number, width))
                self.same(Turn(width - 1).onward(number, width), Turn(1).backward(number, width))

    def test_lean_at_odd_widths_keeps_the_lower_smaller_half(self):
        for width in (5, 7, 33, 63):
            half = width // 2
            for n in NS:
                for number in some_numbers(width):
                    led = Lean(n).onward(number, width)
                    self.same(led % 2 ** half, number % 2 ** half)
            self.same(Lean(BIG - 1).onward(1, width), 2 ** width - 2 ** half + 1)

    def test_a_step_knows_no_width(self):
        step = Plus(9)
        self.same([step.onward(8, width) for width in (4, 5, 64, 4)], [1, 17, 17, 1])


class Refusals(Case):
    def test_ends_of_n(self):
        for kind in (Plus, Cross, Lean):
            self.same(kind(0).told()[1], 0)
            self.same(kind(BIG - 1).told()[1], BIG - 1)
        self.same(Times(1).told()[1], 1)
        self.same(Times(BIG - 1).told()[1], BIG - 1)
        for kind in BY_N.values():
            for thing in [-1, BIG, BIG + 1, -(10 ** 59), 10 ** 59] + no_whole_numbers():
                self.refused(NoNumber, [thing], kind, thing)

    def test_even_numbers_by_times(self):
        for n in (0, 2, 4, 2 ** 63, BIG - 2):
            self.refused(NoNumber, [n], Times, n)

    def test_ends_of_k(self):
        for kind in BY_K.values():
            for k in (1, 2, 62, 63):
                self.same(kind(k).told()[1], k)
            for thing in [0, -1, 64, 65, 10 ** 59] + no_whole_numbers():
                self.refused(NoNumber, [thing], kind, thing)

    def test_no_widths(self):
        for word, by, step in all_steps():
            for thing in NO_WIDTHS + no_whole_numbers():
                self.refused(NoWidth, [thing], step.onward, 1, thing)
                self.refused(NoWidth, [thing], step.backward, 1, thing)

    def test_no_numbers_of_the_width(self):
        for word, by, step in all_steps():
            for width in (4, 5, 63, 64):
                for thing in [-1, 1 << width, 10 ** 59, -(10 ** 59)] + no_whole_numbers():
                    self.refused(NoNumber, [thing], step.onward, thing, width)
                    self.refused(NoNumber, [thing], step.backward, thing, width)

    def test_no_width_ahead_of_no_number(self):
        for word, by, step in all_steps():
            for thing in (3, 65, True, None, [4]):
                self.refused(NoWidth, [thing], step.onward, -1, thing)
                self.refused(NoWidth, [thing], step.backward, "no", thing)


class Telling(Case):
    def test_told_words_and_levels(self):
        for word, by, step in all_steps():
            self.same(step.told(), (word, by))
            self.same(step.words(), f"{word} {by}")
            self.same(step.levels(), 1)

    def test_each_is_straight_under_step(self):
        for kind in [*BY_N.values(), *BY_K.values()]:
            self.assertEqual(kind.__bases__, (Step,))

    def test_each_method_stands_in_the_class_itself(self):
        for kind in [*BY_N.values(), *BY_K.values()]:
            for name in ("onward", "backward", "told", "words", "levels"):
                self.assertIn(name, vars(kind))

    def test_asked_again_after_leading_all_is_as_it_was(self):
        for word, by, step in all_steps():
            first = step.onward(7, 16)
            step.backward(9, 64)
            self.same(step.onward(7, 16), first)
            self.same(step.told(), (word, by))


class Opposites(Case):
    def test_the_list_goes_as_told(self):
        for n in [1, 3, 5, 7, 9, 11, 15, 17, 255, 2 ** 32 - 1, 0x9E3779B97F4A7C15, BIG - 3, BIG - 1]:
            for width in range(4, 65):
                size = 2 ** width
                row = opposites(n, width)
                self.same(row[0], n % size)
                for one, other in zip(row, row[1:]):
                    self.same(other, one * (2 - n * one) % size)
                self.assertEqual([x * n % size == 1 for x in row], [False] * (len(row) - 1) + [True])
                self.assertLessEqual(len(row), 6)
                self.same(opposite_of(n, width), pow(n, -1, size))
                self.same(row[-1], pow(n, -1, size))

    def test_examples(self):
        self.same(opposites(1, 4), [1])
        self.same(opposites(3, 4), [3, 11])
        self.same(opposites(15, 4), [15])
        self.same(opposites(BIG - 1, 4), [15])
        self.same(opposites(BIG - 1, 64), [BIG - 1])
        self.same(opposites(17, 4), [1])
        self.same(opposite_of(3, 64), 0xAAAAAAAAAAAAAAAB)
        self.same(len(opposites(3, 64)), 6)

    def test_every_odd_number_of_a_small_width(self):
        for n in range(1, 2 ** 9, 2):
            self.same(opposite_of(n, 8) * n % 256, 1)

    def test_a_new_list_each_time(self):
        opposites(3, 4).append(9)
        self.same(opposites(3, 4), [3, 11])

    def test_refusals(self):
        for call in (opposites, opposite_of):
            for thing in [0, 2, -1, -3, BIG, BIG + 1, BIG - 2, 10 ** 59 + 1] + no_whole_numbers():
                self.refused(NoNumber, [thing], call, thing, 8)
                self.refused(NoNumber, [thing], call, thing, 3)
            for thing in NO_WIDTHS + no_whole_numbers():
                self.refused(NoWidth, [thing], call, 3, thing)


if __name__ == "__main__":
    unittest.main()
