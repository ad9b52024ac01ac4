"""Point [126]: outcomes as texts."""

import unittest

from helpers import Case, SOME_SHAPES
from splitseed.deskwords import outcome_text
from splitseed.shapes import shape_of


def by_python(outcome):
    """The text that is due, from how Python writes nested tuples."""
    return " ".join(repr(outcome).replace(",", " ").replace("(", " ( ").replace(")", " ) ").split())


class Outcomes(Case):
    def test_the_documents_examples(self):
        for outcome, text in ((7, "7"), ((), "( )"), ((2, 0, 1), "( 2 0 1 )"), ((3, (0, 4)), "( 3 ( 0 4 ) )")):
            self.same(outcome_text(outcome), text)

    def test_numbers(self):
        for number in (0, 9, 10, 65536, 2 ** 64 - 1, 10 ** 29):
            self.same(outcome_text(number), str(number))
            self.same(outcome_text((number,)), f"( {number} )")

    def test_up_to_six_within_one_another(self):
        for inner in (5, (), (1, 2)):
            outcome, text = inner, by_python(inner)
            for depth in range(6):
                outcome, text = (outcome,), f"( {text} )"
                self.same(outcome_text(outcome), text)
        self.same(outcome_text((((((7, ()), 0), 1), (2, (3,))), ())), "( ( ( ( ( 7 ( ) ) 0 ) 1 ) ( 2 ( 3 ) ) ) ( ) )")
        self.same(outcome_text(((), ())), "( ( ) ( ) )")

    def test_outcomes_of_shapes(self):
        high = ("rows", ("pair", ("rows", ("orders", 2), 2), ("sets", 3, 2)), 2)
        for told in SOME_SHAPES + (high,):
            shape = shape_of(told)
            for number in range(min(shape.numbers(), 200)):
                self.same(outcome_text(shape.outcome(number)), by_python(shape.outcome(number)))


if __name__ == "__main__":
    unittest.main()
