"""Points [14] and [15]."""

import itertools
import unittest

from helpers import Case, no_whole_numbers
from splitseed.digits import mixed, packed, unmixed, unpacked
from splitseed.errors import NoNumber

WIDTHS = [
    [], [0], [0, 0, 0], [1], [4], [64], [3, 0, 2], [0, 5], [5, 0], [1, 2, 3, 4], [64, 64], [64, 0, 64, 1], [64] * 12,
]
BASES = [[], [1], [1, 1], [2], [10], [3, 1, 4], [1, 7], [7, 1], [2, 3, 5, 7], [2 ** 64, 10 ** 30], [10 ** 30] * 12]


def figures(number, width):
    return format(number, "b").zfill(width) if width else ""


class Packed(Case):
    def rows(self, widths):
        """Rows of numbers at and between the ends of the widths."""
        ends = [sorted({0, 1 << width >> 1, (1 << width) - 1}) for width in widths[:5]]
        rest = [(1 << width) - 1 for width in widths[5:]]
        return [[*row, *rest] for row in itertools.product(*ends)]

    def test_the_figures_stand_behind_one_another(self):
        for widths in WIDTHS:
            for row in self.rows(widths):
                text = "".join(figures(number, width) for number, width in zip(row, widths))
                self.same(packed(row, widths), int(text or "0", 2))
                self.same(unpacked(packed(row, widths), widths), row)

    def test_examples(self):
        self.same(packed([1, 2, 3], [2, 4, 3]), 0b01_0010_011)
        self.same(packed([5, 0, 1], [3, 0, 1]), 0b1011)
        self.same(packed([], []), 0)
        self.same(packed([0], [0]), 0)
        self.same(packed([2 ** 64 - 1, 1], [64, 1]), 2 ** 65 - 1)
        self.same(unpacked(0b01_0010_011, [2, 4, 3]), [1, 2, 3])
        self.same(unpacked(0, []), [])
        self.same(unpacked(0, [0, 0]), [0, 0])
        self.same(unpacked(6, [0, 3, 0]), [0, 6, 0])

    def test_all_numbers_of_small_widths(self):
        for widths in ([2, 0, 3], [1, 1, 1, 1], [5]):
            for number in range(1 << sum(widths)):
                self.same(packed(unpacked(number, widths), widths), number)

    def test_tuples_as_well(self):
        self.same(packed((1, 2), (2, 4)), 18)
        self.same(packed((1, 2), [2, 4]), 18)
        self.same(unpacked(18, (2, 4)), [1, 2])

    def test_the_first_that_is_no_number_is_refused(self):
        for at in range(4):
            for thing in no_whole_numbers() + [-1, 8, 10 ** 59, -(10 ** 59)]:
                row = [1, 7, 0, 5]
                row[at] = thing
                self.refused(NoNumber, [thing], packed, row, [3, 3, 3, 3])
                row[3] = thing if at == 3 else "later"
                self.refused(NoNumber, [thing], packed, tuple(row), (3, 3, 3, 3))

    def test_each_number_at_and_beyond_its_own_width(self):
        widths = [0, 1, 63, 64]
        for at, width in enumerate(widths):
            row = [0, 0, 0, 0]
            row[at] = (1 << width) - 1
            self.same(unpacked(packed(row, widths), widths), row)
            row[at] = 1 << width
            self.refused(NoNumber, [1 << width], packed, row, widths)

    def test_unpacked_at_and_beyond_all_widths(self):
        for widths in WIDTHS:
            self.same(unpacked((1 << sum(widths)) - 1, widths), [(1 << width) - 1 for width in widths])
            for thing in [1 << sum(widths), -1, 10 ** 399] + no_whole_numbers():
                self.refused(NoNumber, [thing], unpacked, thing, widths)

    def test_what_is_handed_in_stays_and_what_is_told_is_the_askers_own(self):
        numbers, widths = [1, 2], [2, 4]
        packed(numbers, widths)
        told = unpacked(18, widths)
        told.append(9)
        self.same((numbers, widths), ([1, 2], [2, 4]))
        self.same(unpacked(18, widths), [1, 2])


class Mixed(Case):
    def test_the_last_one_changes_fastest(self):
        for bases in ([2, 3, 4], [3, 1, 2], [1, 1], [5], []):
            rows = [list(row) for row in itertools.product(*[range(base) for base in bases])]
            for number, row in enumerate(rows):
                self.same(mixed(row, bases), number)
                self.same(unmixed(number, bases), row)
            self.refused(NoNumber, [len(rows)], unmixed, len(rows), bases)

    def test_examples(self):
        self.same(mixed([], []), 0)
        self.same(mixed([0], [1]), 0)
        self.same(mixed([1, 2, 3], [10, 10, 10]), 123)
        self.same(mixed([3, 2, 1], [4, 3, 2]), 23)
        self.same(unmixed(123, [10, 10, 10]), [1, 2, 3])
        self.same(unmixed(0, []), [])
        self.same(unmixed(0, [1, 1]), [0, 0])

    def test_at_and_beyond_all_bases(self):
        for bases in BASES:
            total = 1
            for base in bases:
                total *= base
            self.same(unmixed(total - 1, bases), [base - 1 for base in bases])
            self.same(mixed([base - 1 for base in bases], bases), total - 1)
            for thing in [total, -1, 10 ** 399] + no_whole_numbers():
                self.refused(NoNumber, [thing], unmixed, thing, bases)

    def test_tuples_as_well(self):
        self.same(mixed((1, 2), (2, 4)), 6)
        self.same(unmixed(6, (2, 4)), [1, 2])

    def test_the_first_that_is_no_number_is_refused(self):
        for at in range(3):
            for thing in no_whole_numbers() + [-1, 3, 10 ** 59, -(10 ** 59)]:
                row = [1, 2, 0]
                row[at] = thing
                self.refused(NoNumber, [thing], mixed, row, [3, 3, 3])
                row[2] = thing if at == 2 else "later"
                self.refused(NoNumber, [thing], mixed, tuple(row), (3, 3, 3))

    def test_each_number_at_and_beyond_its_own_base(self):
        bases = [1, 2, 7, 10 ** 30]
        for at, base in enumerate(bases):
            row = [0, 0, 0, 0]
            row[at] = base - 1
            self.same(unmixed(mixed(row, bases), bases), row)
            row[at] = base
            self.refused(NoNumber, [base], mixed, row, bases)

    def test_what_is_handed_in_stays_and_what_is_told_is_the_askers_own(self):
        numbers, bases = [1, 2], [2, 4]
        mixed(numbers, bases)
        told = unmixed(6, bases)
        told.append(9)
        self.same((numbers, bases), ([1, 2], [2, 4]))
        self.same(unmixed(6, bases), [1, 2])


if __name__ == "__main__":
    unittest.main()
