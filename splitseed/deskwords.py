"""Outcomes as texts."""


def outcome_text(outcome):
    """The text of an outcome: the figures of a number, or the texts of a tuple's things in brackets."""
    if isinstance(outcome, tuple):
        return " ".join(["("] + [outcome_text(thing) for thing in outcome] + [")"])
    return str(outcome)
