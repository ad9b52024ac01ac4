"""Points [21], [23], [24], [25] and [27]: Back, Chain, steps made of tuples, and images."""

import unittest

from helpers import Case, no_whole_numbers
from splitseed.chains import Back, Chain, images, step_of
from splitseed.errors import NoNumber, NoStep, NoWidth
from splitseed.machines import Machine
from splitseed.steps import Cross, Fold, Lean, Plus, Rise, Step, Times, Turn

BIG = 2 ** 64


def simple_steps():
    return [Plus(5), Times(5), Cross(9), Fold(2), Rise(3), Turn(1), Lean(7)]


def twelve():
    return (simple_steps() + simple_steps())[:12]


def deep(levels):
    """A step of so many levels, by Back."""
    step = Plus(3)
    for level in range(levels - 1):
        step = Back(step)
    return step


def deep_chain(levels):
    """A chain of so many levels, the innermost one without steps."""
    step = Chain([])
    for level in range(levels - 1):
        step = Chain([Plus(1), step])
    return step


def made_steps():
    """Steps made of steps, with their levels."""
    return [
        (Back(Plus(3)), 2), (Back(Back(Times(7))), 3), (Back(Back(Back(Rise(2)))), 4),
        (Chain([]), 1), (Chain(()), 1), (Back(Chain([])), 2), (Chain([Chain([])]), 2), (Chain([Plus(3)]), 2),
        (Chain(twelve()), 2), (Chain(tuple(twelve())), 2), (Back(Chain(twelve())), 3),
        (Chain([Plus(1), Back(Times(3)), Fold(1)]), 3), (Chain([Chain([Chain([Plus(1), Turn(2)])]), Rise(1)]), 4),
        (Chain([Chain([Chain([Chain([])])])]), 4), (Back(Back(Back(Chain([])))), 4),
        (Chain([deep(3), Plus(1), deep(2)]), 4), (Chain([Lean(3), Back(Lean(5)), Back(Turn(3))]), 3),
    ]


def no_steps():
    """Things that are no steps, new ones each time."""
    things = [thing for thing in no_whole_numbers() if not isinstance(thing, Step)]
    return things + [0, 5, 10 ** 59, ("plus", 5), "plus 5", [Plus(5)], (Plus(5),), Machine(0, 1, 0, 4)]


class Leading(Case):
    def test_back_leads_the_other_way(self):
        for step in simple_steps() + [Chain(twelve())]:
            for width in (4, 5, 63, 64):
                for number in (0, 1, 7, (1 << width) - 1, 11):
                    self.same(Back(step).onward(number, width), step.backward(number, width))
                    self.same(Back(step).backward(number, width), step.onward(number, width))
                    self.same(Back(Back(step)).onward(number, width), step.onward(number, width))
                    self.same(Back(Back(step)).backward(number, width), step.backward(number, width))

    def test_a_chain_leads_by_each_in_their_order(self):
        for steps in ([], [Plus(5)], simple_steps(), twelve(), [Times(3), Back(Fold(1)), Chain([Plus(1), Turn(1)])]):
            for width in (4, 5, 63, 64):
                for number in (0, 1, 7, (1 << width) - 1):
                    onward = backward = number
                    for step in steps:
                        onward = step.onward(onward, width)
                    for step in steps[::-1]:
                        backward = step.backward(backward, width)
                    for chain in (Chain(steps), Chain(tuple(steps))):
                        self.same(chain.onward(number, width), onward)
                        self.same(chain.backward(number, width), backward)

    def test_examples(self):
        self.same(Chain([Plus(1), Times(3)]).onward(2, 8), 9)
        self.same(Chain([Times(3), Plus(1)]).onward(2, 8), 7)
        self.same(Chain([Plus(1), Times(3)]).backward(9, 8), 2)
        self.same(Back(Plus(1)).onward(0, 4), 15)
        self.same(Back(Chain([Plus(1), Times(3)])).onward(9, 8), 2)
        self.same(Chain([]).onward(9, 4), 9)
        self.same(Chain([]).backward(9, 4), 9)

    def test_all_numbers_of_a_small_width(self):
        for step, levels in made_steps():
            for width in (4, 5):
                every = list(range(1 << width))
                self.assertEqual(sorted(step.onward(number, width) for number in every), every)
                for number in every:
                    self.same(step.backward(step.onward(number, width), width), number)
                    self.same(step.onward(step.backward(number, width), width), number)

    def test_the_list_changed_behind_changes_nothing(self):
        steps = [Plus(1), Plus(2)]
        chain = Chain(steps)
        steps.append(Plus(4))
        steps[0] = Times(7)
        self.same(chain.onward(0, 8), 3)
        self.same(chain.told(), ("chain", (("plus", 1), ("plus", 2))))
        self.assertEqual(len(steps), 3)

    def test_refused_numbers_and_widths(self):
        for step, levels in made_steps():
            for lead in (step.onward, step.backward):
                for thing in [3, 65, -4, 10 ** 59] + no_whole_numbers():
                    self.refused(NoWidth, [thing], lead, 1, thing)
                    self.refused(NoWidth, [thing], lead, "no", thing)
                for width in (4, 64):
                    for thing in [-1, 1 << width, 10 ** 59] + no_whole_numbers():
                        self.refused(NoNumber, [thing], lead, thing, width)


class Levels(Case):
    def test_levels(self):
        for step, levels in made_steps():
            self.same(step.levels(), levels)
        for levels in (1, 2, 3, 4):
            self.same(deep(levels).levels(), levels)
            self.same(deep_chain(levels).levels(), levels)

    def test_a_fifth_level_is_refused(self):
        for step in (deep(4), deep_chain(4), Back(deep_chain(3)), Chain([deep(3)])):
            self.refused(NoStep, [step], Back, step)
            self.refused(NoStep, [step], Chain, [step])
            self.refused(NoStep, [step], Chain, (Plus(1), deep(3), step, deep(4)))

    def test_what_is_no_step(self):
        for thing in no_steps():
            self.refused(NoStep, [thing], Back, thing)
            self.refused(NoStep, [thing], Chain, [thing])
            self.refused(NoStep, [thing], Chain, (Plus(1), thing, None))
            self.refused(NoStep, [thing], Chain, [Plus(1)] * 11 + [thing])

    def test_what_a_chain_is_not_made_of(self):
        for thing in (None, True, 0, 5, "", "plus 5", {}, {Plus(1): 1}, Plus(1), Chain([]), Back(Plus(1))):
            self.refused(NoStep, [thing], Chain, thing)

    def test_more_than_twelve_things(self):
        for many in (13, 14, 300):
            for steps in ([Plus(1)] * many, (Plus(1),) * many, [None] * many):
                self.refused(NoStep, [steps], Chain, steps)
        self.assertEqual(len(Chain([Plus(1)] * 12).told()[1]), 12)

    def test_the_classes(self):
        for kind in (Back, Chain):
            self.assertEqual(kind.__bases__, (Step,))
            for name in ("onward", "backward", "told", "words", "levels"):
                self.assertIn(name, vars(kind))


class Telling(Case):
    def test_told(self):
        self.same(Back(Fold(3)).told(), ("back", ("fold", 3)))
        self.same(Chain([]).told(), ("chain", ()))
        self.same(Chain([Plus(5)]).told(), ("chain", (("plus", 5),)))
        self.same(
            Chain([Plus(5), Back(Times(3)), Chain([])]).told(),
            ("chain", (("plus", 5), ("back", ("times", 3)), ("chain", ()))),
        )

    def test_words(self):
        self.same(Back(Fold(3)).words(), "back fold 3")
        self.same(Back(Back(Fold(3))).words(), "back back fold 3")
        self.same(Chain([Plus(5), Back(Times(3))]).words(), "chain ( plus 5 ; back times 3 )")
        self.same(Chain([]).words(), "chain ( )")
        self.same(Chain([Lean(0)]).words(), "chain ( lean 0 )")
        self.same(Back(Chain([Chain([]), Chain([Turn(1)])])).words(), "back chain ( chain ( ) ; chain ( turn 1 ) )")

    def test_made_again(self):
        for step in simple_steps() + [step for step, levels in made_steps()]:
            again = step_of(step.told())
            self.assertIs(type(again), type(step))
            self.same(again.told(), step.told())
            self.same(again.levels(), step.levels())
            for number in (0, 7, 200, 255):
                self.same(again.onward(number, 8), step.onward(number, 8))

    def test_each_simple_step_at_its_ends(self):
        for word in ("plus", "cross", "lean"):
            for n in (0, 1, BIG - 1):
                self.same(step_of((word, n)).told(), (word, n))
        for n in (1, 3, BIG - 1):
            self.same(step_of(("times", n)).told(), ("times", n))
        for word in ("fold", "rise", "turn"):
            for k in (1, 63):
                self.same(step_of((word, k)).told(), (word, k))

    def test_spoilt_simple_steps(self):
        spoilt = [("times", 0), ("times", 2), ("times", BIG - 2)]
        for word in ("plus", "times", "cross", "lean"):
            spoilt += [(word, -1), (word, BIG), (word, BIG + 1)]
        for word in ("fold", "rise", "turn"):
            spoilt += [(word, 0), (word, 64), (word, -1)]
        for word in ("plus", "times", "cross", "fold", "rise", "turn", "lean"):
            spoilt += [(word,), (word, 5, 5), [word, 5], (word, (5,)), (5, word), (word, ("plus", 5))]
            spoilt += [(word, thing) for thing in no_whole_numbers()]
            spoilt += [(word.upper(), 5), (word + " ", 5), ("", 5), ((word,), 5), ([word], 5)]
        for thing in spoilt:
            self.refused(NoStep, [thing], step_of, thing)

    def test_spoilt_steps_of_steps(self):
        plus = ("plus", 5)
        for thing in (
            ("back",), ("back", plus, plus), ["back", plus], ("back", ["plus", 5]), ("back", ("plus", True)),
            ("back", Plus(5)), ("back", None), ("back", ()), ("back", (plus,)), ("back", 5), ("Back", plus),
            ("chain",), ("chain", (), ()), ["chain", ()], ("chain", []), ("chain", [plus]), ("chain", plus),
            ("chain", (["plus", 5],)), ("chain", (plus, ("plus", False))), ("chain", (plus, None)), ("chain", None),
            ("chain", 5), ("chain", (Plus(5),)), ("chain", "plus"), ("chain", (plus, ("times", 4))),
            ("chain", (plus, ("plus", 5, 5))), ("chain", (("plus",), plus)), ("chain", (plus,) * 13),
            ("chain", (("chain", (plus,) * 13),)), ("chain", ((),)), ("none", plus), (), (plus,), ((), ()), (None, None),
        ):
            self.refused(NoStep, [thing], step_of, thing)

    def test_a_level_too_many(self):
        for step in (deep(4), deep_chain(4), Chain([deep(3)]), Back(deep_chain(3))):
            self.same(step_of(step.told()).levels(), 4)
            for thing in (("back", step.told()), ("chain", (step.told(),)), ("chain", (("plus", 1), step.told()))):
                self.refused(NoStep, [thing], step_of, thing)
        deeper = ("plus", 5)
        for level in range(9):
            deeper = ("back", deeper)
        self.refused(NoStep, [deeper], step_of, deeper)

    def test_twelve_steps_are_let_by(self):
        told = ("chain", (("plus", 5),) * 12)
        self.same(step_of(told).told(), told)

    def test_things_that_are_no_tuples(self):
        for thing in no_whole_numbers() + [5, "plus 5", ["plus", 5], {"plus": 5}, Chain([]), Machine(0, 1, 0, 4)]:
            self.refused(NoStep, [thing], step_of, thing)


class Images(Case):
    def test_each_number_once(self):
        for step in simple_steps() + [step for step, levels in made_steps()]:
            for width in (4, 7, 10):
                told = images(step, width)
                self.same(told, [step.onward(number, width) for number in range(2 ** width)])
                self.assertEqual(sorted(told), list(range(2 ** width)))

    def test_examples(self):
        self.same(images(Plus(1), 4), [*range(1, 16), 0])
        self.same(images(Chain([]), 10), list(range(1024)))

    def test_a_new_list_each_time(self):
        step = Plus(1)
        images(step, 4).clear()
        self.same(images(step, 4), [*range(1, 16), 0])

    def test_refusals(self):
        for thing in [3, 11, 64, 0, -4] + no_whole_numbers():
            self.refused(NoWidth, [thing], images, Plus(1), thing)
        for thing in no_steps():
            self.refused(NoStep, [thing], images, thing, 4)
            self.refused(NoStep, [thing], images, thing, 3)


if __name__ == "__main__":
    unittest.main()
