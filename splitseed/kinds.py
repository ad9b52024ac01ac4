"""Whether things are the same, of the same kinds in all their parts."""

from splitseed.words import is_whole


def all_alike(due, things):
    """Whether things are as many as those that are due, and each one is like the one due there."""
    return len(due) == len(things) and all(alike(one, other) for one, other in zip(due, things))


def alike(due, thing):
    """Whether any thing is what is due: a whole number, a text, or a list or a tuple of such things."""
    if isinstance(due, list):
        return isinstance(thing, list) and all_alike(due, thing)
    if isinstance(due, tuple):
        return isinstance(thing, tuple) and all_alike(due, thing)
    if isinstance(due, str):
        return isinstance(thing, str) and thing == due
    return is_whole(thing) and thing == due
