"""The head of the interface, and rule L5: each name is there, takes what it should, and each method stands in the
body of its class itself."""

import importlib
import inspect
import unittest

STEP = {"onward": "number width", "backward": "number width", "told": "", "words": "", "levels": ""}
SHAPE = {
    "numbers": "", "height": "", "outcome": "number", "how_many_for": "thing", "first_for": "thing",
    "all_outcomes": "", "of": "value width", "told": "", "words": "",
}
MACHINE = {
    "steps": "", "seeds": "", "parts": "", "length": "", "is_path": "thing", "spot": "seed path place",
    "state": "seed path place", "read_spot": "number", "onward": "number", "backward": "number",
    "read_state": "number", "next_state": "number", "told": "",
}
HAND = {
    "draw": "", "draws": "many", "jumped": "many", "left_over": "", "drawer": "", "parted": "many=2", "told": "",
}
PLAN = {
    "root": "", "names": "", "served": "", "rows_of": "name", "upper_of": "name", "path_of": "name", "told": "",
}
TABLE = {
    "serve": "name", "is_there": "name", "is_over": "name", "all_over": "", "came": "name", "papers": "name",
    "hand_now": "name", "hand_on": "name holder", "holder_of": "name", "serve_holder": "holder",
    "deal": "names=None", "serve_out": "",
}

# Each class with what it stands straight under, what it is made of (None where the document leaves this open), and
# its methods.
CLASSES = {
    "steps": {
        "Step": ("object", None, STEP), "Plus": ("Step", "n", STEP), "Times": ("Step", "n", STEP),
        "Cross": ("Step", "n", STEP), "Fold": ("Step", "k", STEP), "Rise": ("Step", "k", STEP),
        "Turn": ("Step", "k", STEP), "Lean": ("Step", "n", STEP),
    },
    "chains": {"Back": ("Step", "step", STEP), "Chain": ("Step", "steps", STEP)},
    "machines": {"Machine": ("object", "seed_bits part_bits depth place_bits steps=None", MACHINE)},
    "hands": {"Hand": ("object", None, HAND)},
    "shapes": {
        "Shape": ("object", None, SHAPE), "Below": ("Shape", "bound", SHAPE), "Shares": ("Shape", "shares", SHAPE),
        "Orders": ("Shape", "many", SHAPE), "Sets": ("Shape", "many size", SHAPE),
        "Pair": ("Shape", "one other", SHAPE), "Rows": ("Shape", "shape many", SHAPE),
    },
    "plans": {"Plan": ("object", None, PLAN)},
    "tables": {"Table": ("object", "machine seed plan", TABLE)},
    "desk": {"Desk": ("object", "", {"say": "line"})},
}
FUNCTIONS = {
    "words": {
        "is_whole": "thing", "is_within": "thing low high", "is_name": "thing", "own_words": "",
        "plain_number": "thing most",
    },
    "digits": {
        "packed": "numbers widths", "mixed": "numbers bases", "unpacked": "number widths", "unmixed": "number bases",
    },
    "steps": {"opposite_of": "n width", "opposites": "n width"},
    "chains": {"step_of": "told", "images": "step width"},
    "steptext": {"read_step": "text"},
    "machines": {"machine_of": "told", "same_machine": "one other"},
    "machinetext": {"show_machine": "machine", "read_machine": "text"},
    "hands": {"first_hand": "machine seed", "hand_of": "machine told", "joined": "parts", "same_hand": "one other"},
    "handtext": {"show_hand": "hand", "read_hand": "machine text"},
    "orders": {
        "is_order": "thing", "orders_many": "many", "order_at": "many rank", "order_rank": "order",
        "next_order": "order", "laid": "row order", "turned_order": "order", "by_numbers": "numbers",
        "numbers_by": "order",
    },
    "sets": {
        "sets_many": "many size", "set_at": "many size rank", "set_rank": "many told", "next_set": "many told",
    },
    "shares": {
        "shares_many": "shares", "share_at": "shares number", "rest_in": "shares number", "first_of": "shares at",
        "number_of": "shares at rest",
    },
    "shapes": {"shape_of": "told"},
    "shapetext": {"read_shape": "text"},
    "shaped": {"taken": "hand shape", "taker": "shape", "shuffled": "hand row", "picked": "hand row many"},
    "papers": {"is_paper": "machine shape paper outcome", "show_paper": "paper", "read_paper": "text"},
    "rounds": {
        "tally": "machine shape", "is_tally": "machine shape thing", "by_seeds": "machine shape path place",
        "by_places": "machine shape seed path", "takings": "machine shape path",
    },
    "leaning": {
        "swaps_tally": "many", "leaning": "bound width", "most_leaning": "bound width", "fair": "bound width",
    },
    "plans": {"plan_of": "scripts served=None"},
    "plantext": {"show_plan": "plan", "read_plan": "text"},
    "alone": {"alone": "machine seed plan name"},
    "origins": {
        "origin_of": "machine number", "numbers_of": "machine stretch", "covers": "machine stretch number",
        "meeting": "machine one other", "is_meeting": "machine one other thing",
    },
    "trees": {
        "all_paths": "plan", "name_at": "plan path", "family": "plan name", "way_between": "plan one other",
        "upper_both": "plan one other", "show_tree": "plan",
    },
    "ledgers": {
        "ledger": "machine seed plan", "whose": "machine seed plan number", "drawn_by": "machine seed plan number",
    },
    "deskwords": {"outcome_text": "outcome"},
}


def parameters(function, own):
    """What a function takes, by names; own where the first parameter is the object itself."""
    found = []
    for name, parameter in list(inspect.signature(function).parameters.items())[1 if own else 0:]:
        empty = parameter.default is inspect.Parameter.empty
        found.append(name if empty else f"{name}={parameter.default!r}")
    return " ".join(found)


class Interface(unittest.TestCase):
    def test_methods_stand_in_the_body_of_each_class_itself(self):
        for module in CLASSES:
            for name, (base, made_of, methods) in CLASSES[module].items():
                kind = getattr(importlib.import_module(f"splitseed.{module}"), name)
                for method, takes in methods.items():
                    self.assertIn(method, kind.__dict__, f"{module}.{name}")
                    self.assertTrue(inspect.isfunction(kind.__dict__[method]), f"{module}.{name}.{method}")
                    self.assertEqual(parameters(kind.__dict__[method], True), takes, f"{module}.{name}.{method}")

    def test_classes_and_what_they_stand_under(self):
        for module in CLASSES:
            for name, (base, made_of, methods) in CLASSES[module].items():
                kind = getattr(importlib.import_module(f"splitseed.{module}"), name)
                self.assertEqual([above.__name__ for above in kind.__bases__], [base], f"{module}.{name}")
                self.assertEqual(kind.__module__, f"splitseed.{module}")
                if made_of is not None:
                    self.assertEqual(parameters(kind.__init__, True), made_of, f"{module}.{name}")

    def test_functions_and_what_they_take(self):
        for module in FUNCTIONS:
            for name, takes in FUNCTIONS[module].items():
                function = getattr(importlib.import_module(f"splitseed.{module}"), name)
                self.assertTrue(inspect.isfunction(function), f"{module}.{name}")
                self.assertEqual(function.__module__, f"splitseed.{module}")
                self.assertEqual(parameters(function, False), takes, f"{module}.{name}")

    def test_what_stands_under_step_and_shape_is_in_the_table(self):
        for module, top in (("steps", "Step"), ("shapes", "Shape")):
            for every in CLASSES:
                importlib.import_module(f"splitseed.{every}")
            kind = getattr(importlib.import_module(f"splitseed.{module}"), top)
            known = [name for table in CLASSES.values() for name, row in table.items() if row[0] == top]
            self.assertEqual(sorted(below.__name__ for below in kind.__subclasses__()), sorted(known))


if __name__ == "__main__":
    unittest.main()
