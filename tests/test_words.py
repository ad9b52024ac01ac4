"""Points [2], [11], [12] and [13]."""

import unittest

from helpers import Case, no_texts, no_whole_numbers
from splitseed.words import is_name, is_whole, is_within, own_words, plain_number

OWN = (
    "plus times cross fold rise turn lean back chain machine hand below shares orders sets pair rows draw take "
    "shuffle jump part join serve seed show house"
)
SIGNS = [chr(code) for code in range(32, 127)] + ["\n"]


class Wholes(Case):
    def test_whole_numbers(self):
        for number in (0, 1, -1, 7, 2 ** 64, -(2 ** 64), 10 ** 60 - 1):
            self.same(is_whole(number), True)

    def test_no_whole_numbers(self):
        for thing in no_whole_numbers():
            self.same(is_whole(thing), False)

    def test_both_bounds_are_within(self):
        for low, high in ((0, 5), (-3, 3), (7, 7), (2 ** 64, 2 ** 65)):
            for number in (low, high, (low + high) // 2):
                self.same(is_within(number, low, high), True)
            for number in (low - 1, high + 1):
                self.same(is_within(number, low, high), False)

    def test_nothing_is_within_bounds_that_are_crossed(self):
        for number in (2, 3, 4):
            self.same(is_within(number, 4, 2), False)

    def test_truths_and_other_things_are_not_within(self):
        for thing in no_whole_numbers():
            self.same(is_within(thing, -1, 9), False)


class Names(Case):
    def test_names_of_one_to_eight_letters(self):
        for name in ("a", "z", "ab", "anna", "abcdefg", "abcdefgh", "zzzzzzzz", "q" * 8):
            self.same(is_name(name), True)

    def test_none_and_nine_letters(self):
        for text in ("", "abcdefghi", "a" * 9, "a" * 10000):
            self.same(is_name(text), False)

    def test_each_letter_alone(self):
        for sign in SIGNS:
            self.same(is_name(sign), sign in "abcdefghijklmnopqrstuvwxyz")

    def test_another_sign_at_the_first_a_middle_and_the_last_place(self):
        for sign in SIGNS:
            if not "a" <= sign <= "z":
                for text in (sign + "bcd", "ab" + sign + "d", "abc" + sign, sign + "b", "a" + sign):
                    self.same(is_name(text), False)

    def test_letters_beyond_the_small_ones(self):
        for text in ("\u00e4", "a\u00df", "\u0430", "A", "aB", "\u00aa"):
            self.same(is_name(text), False)

    def test_own_words_are_no_names_but_with_a_letter_more(self):
        for word in OWN.split():
            self.same(is_name(word), False)
            self.same(is_name(word + "s"), len(word) < 8 and word + "s" not in OWN.split())
            self.same(is_name("x" + word), len(word) < 8)
            self.same(is_name(word[:-1]), True)

    def test_things_that_are_no_texts(self):
        for thing in no_texts() + [["a"], ("a",), {"a": "a"}]:
            self.same(is_name(thing), False)


class OwnWords(Case):
    def test_the_list_in_its_order(self):
        self.same(own_words(), OWN.split())
        self.assertEqual(len(own_words()), 27)

    def test_a_new_list_each_time(self):
        told = own_words()
        told.clear()
        self.same(own_words(), OWN.split())
        self.assertIsNot(own_words(), own_words())


class PlainNumbers(Case):
    def test_plainly_written(self):
        for number in (*range(0, 130), 999, 1000, 10 ** 29, 2 ** 64 - 1):
            self.same(plain_number(str(number), 10 ** 30), number)

    def test_at_most_and_one_above(self):
        for most in (0, 1, 9, 10, 63, 99, 100, 2 ** 64 - 1, 10 ** 30 - 1):
            self.same(plain_number(str(most), most), most)
            self.same(plain_number(str(most + 1), most), None)
            self.same(plain_number("0", most), 0)

    def test_a_most_below_0(self):
        for text in ("0", "1", "-1", "-5"):
            self.same(plain_number(text, -1), None)
            self.same(plain_number(text, -5), None)

    def test_noughts_ahead(self):
        for text in ("07", "00", "000", "01", "0000000007", "0" * 10000):
            self.same(plain_number(text, 10 ** 30), None)

    def test_signs_and_no_signs(self):
        for text in ("", "+7", "-7", "-0", "+0", "7.0", "7e2", "1_000", "0x7", "seven", " ", "\n"):
            self.same(plain_number(text, 10 ** 30), None)

    def test_another_sign_at_each_place(self):
        for sign in SIGNS:
            if not sign.isdigit():
                for text in (sign + "123", "1" + sign + "23", "12" + sign + "3", "123" + sign, sign):
                    self.same(plain_number(text, 10 ** 30), None)

    def test_figures_of_other_scripts(self):
        for text in ("\u0663", "1\u0663", "\u00b2", "1\u00b2", "\uff11"):
            self.same(plain_number(text, 10 ** 30), None)

    def test_ten_thousand_figures(self):
        for text in ("1" * 10000, "9" * 10000, "1" + "0" * 9999, "7" * 9999 + " "):
            self.same(plain_number(text, 10 ** 30), None)

    def test_things_that_are_no_texts(self):
        for thing in no_texts():
            self.same(plain_number(thing, 10 ** 30), None)


if __name__ == "__main__":
    unittest.main()
