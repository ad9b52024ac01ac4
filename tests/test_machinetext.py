"""Point [37]: machines written and read."""

import unittest

from helpers import Case, no_texts
from splitseed.chains import Back, Chain
from splitseed.errors import NoText
from splitseed.machines import Machine
from splitseed.machinetext import read_machine, show_machine
from splitseed.steps import Fold, Lean, Plus, Times

THREE = Back(Back(Plus(1)))


class MachineText(Case):
    def wrong(self, text, at):
        self.refused(NoText, [at], read_machine, text)

    def test_written(self):
        self.same(show_machine(Machine(8, 2, 3, 4)), "machine 8 2 3 4")
        self.same(
            show_machine(Machine(0, 1, 6, 16, [Plus(0), Chain([Lean(7), Back(Fold(3))]), Chain([])])),
            "machine 0 1 6 16\nplus 0\nchain ( lean 7 ; back fold 3 )\nchain ( )",
        )

    def test_written_and_read_again(self):
        for sizes in ((8, 2, 3, 4), (0, 1, 0, 4), (32, 5, 3, 16), (18, 5, 6, 16), (4, 1, 0, 1)):
            for steps in ([], [Plus(2 ** 64 - 1)], [THREE, Chain([Times(3), Chain([Lean(0)])])] * 6, [Chain([])]):
                machine = Machine(*sizes, steps)
                again = read_machine(show_machine(machine))
                self.assertIsInstance(again, Machine)
                self.same(again.told(), machine.told())
                self.same(show_machine(again), show_machine(machine))

    def test_the_row_0(self):
        for row in (
            "", " ", "machine", "machine 8 2 3", "machine 8 2 3 4 5", "machine 8 2 3 4 ", " machine 8 2 3 4",
            "machine  8 2 3 4", "machine 8 2 3  4", "Machine 8 2 3 4", "8 2 3 4", "machine 08 2 3 4", "machine 8 2 3 +4",
            "machine 33 2 3 4", "machine 8 0 3 4", "machine 8 6 3 4", "machine 8 2 7 4", "machine 8 2 3 0",
            "machine 8 2 3 17", "machine -1 2 3 4", "machine 0 1 0 3", "machine 19 5 6 16", "machine x 2 3 4", "plus 5",
            "machine 8 2 3 four", "machine 8 2 3 4 plus 5", "machine 8 2 " + "1" * 9000 + " 4", "machine 8 2 3",
            "machine 8 2 3 4 5 6", "hand 8 2 3 4",
        ):
            self.wrong(row, 0)
            self.wrong(row + "\nplus 5", 0)
            self.wrong(row + "\nnothing", 0)

    def test_a_later_row(self):
        for row in (
            "", " ", "plus", "plus 5 ", " plus 5", "plus  5", "plus 05", "times 4", "machine 8 2 3 4", "plus 5 ; plus 6",
            "chain ( plus 5", "back back back plus 5", "chain ( back back plus 5 )", "chain ( chain ( chain ( plus 1 ) ) )",
            "back back back chain ( )", "chain ( chain ( chain ( chain ( ) ) ) )", "fold 64", "( )",
        ):
            self.wrong("machine 8 2 3 4\n" + row, 1)
            self.wrong("machine 8 2 3 4\n" + row + "\nplus 5", 1)
            self.wrong("machine 8 2 3 4\nplus 5\n" + row + "\nnothing", 2)
            self.wrong("machine 8 2 3 4" + "\nplus 5" * 11 + "\n" + row, 12)
        self.same(read_machine("machine 8 2 3 4\nback back plus 1").told()[4], (THREE.told(),))

    def test_the_row_13(self):
        rows = "machine 8 2 3 4" + "\nplus 5" * 12
        self.assertEqual(len(read_machine(rows).steps()), 12)
        for row in ("plus 5", "", "nothing", "plus 5\nplus 5", "\n"):
            self.wrong(rows + "\n" + row, 13)
        self.wrong("machine 8 2 3 4" + "\nplus 5" * 11 + "\nnothing\nplus 5", 12)

    def test_line_feeds_ahead_behind_and_doubled(self):
        for text, at in (
            ("\nmachine 8 2 3 4", 0), ("machine 8 2 3 4\n", 1), ("machine 8 2 3 4\n\nplus 5", 1), ("\n", 0),
            ("machine 8 2 3 4\nplus 5\n", 2), ("machine 8 2 3 4\nplus 5\n\n", 2), ("machine\n8 2 3 4", 0),
            ("machine 8 2 3 4\nplus 5\n\nplus 6", 2), ("machine 8 2 3 4\nplus\n5", 1), ("\n" * 20, 0),
        ):
            self.wrong(text, at)

    def test_things_that_are_no_texts(self):
        for thing in no_texts() + [Machine(8, 2, 3, 4), ["machine 8 2 3 4"]]:
            self.refused(NoText, [0], read_machine, thing)


if __name__ == "__main__":
    unittest.main()
