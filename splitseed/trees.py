"""The hands of a plan as a tree."""

from splitseed.kinds import alike
from splitseed.plans import way_down


def all_paths(plan):
    """The path of each hand by its name, in the order of the names."""
    return {name: plan.path_of(name) for name in plan.names()}


def name_at(plan, path):
    """The name of the hand that has just this path, or None; of any thing as path."""
    for name in plan.names():
        if alike(plan.path_of(name), path):
            return name
    return None


def family(plan, name):
    """The name of a hand, and behind it those of the families of its parts."""
    plan.check_known(name)
    names = [name]
    # Parts come by rising child numbers.
    for part in plan.names():
        if plan.upper_of(part) == name:
            names.extend(family(plan, part))
    return names


def upper_both(plan, one, other):
    """The name of the lowest hand in whose family two hands are."""
    return [upper for upper, beside in zip(way_down(plan, one), way_down(plan, other)) if upper == beside][-1]


def way_between(plan, one, other):
    """The names from one hand up to the lowest hand over both, and down to the other."""
    top = len(plan.path_of(upper_both(plan, one, other)))
    return way_down(plan, one)[top:][::-1] + way_down(plan, other)[top + 1:]


def tree_row(name, path):
    """The row of a hand in the text of a tree."""
    return "  " * len(path) + " ".join([name] + [str(number) for number in path])


def show_tree(plan):
    """The text of the tree: a row for each hand, in the order of the root's family."""
    return "\n".join([tree_row(name, plan.path_of(name)) for name in family(plan, plan.root())])
