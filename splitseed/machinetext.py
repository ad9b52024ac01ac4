"""Machines written as texts and read back."""

from splitseed.chains import MOST_LEVELS, MOST_STEPS
from splitseed.errors import NoMachine, NoText
from splitseed.machines import Machine
from splitseed.steptext import read_step
from splitseed.words import plain_number

GREATEST_SIZE = 32


def show_machine(machine):
    """The text of a machine: a row of its sizes, and a row for each step."""
    sizes = f"machine {machine.seed_bits} {machine.part_bits} {machine.depth} {machine.place_bits}"
    return "\n".join([sizes] + [step.words() for step in machine.steps()])


def read_sizes(row):
    """The machine without steps whose sizes this row tells."""
    words = row.split(" ")
    if len(words) != 5 or words[0] != "machine":
        raise NoText(0)
    sizes = [plain_number(word, GREATEST_SIZE) for word in words[1:]]
    try:
        return Machine(sizes[0], sizes[1], sizes[2], sizes[3])
    except NoMachine:
        raise NoText(0) from None


def read_row(row, at):
    """The step of the row of this number."""
    if at > MOST_STEPS:
        raise NoText(at)
    try:
        step = read_step(row)
    except NoText:
        raise NoText(at) from None
    # A machine's steps stand within it as within a chain, so they have one level less than a step may have.
    if step.levels() == MOST_LEVELS:
        raise NoText(at)
    return step


def read_machine(text):
    """The machine that is written so, of any thing."""
    if not isinstance(text, str):
        raise NoText(0)
    rows = text.split("\n")
    sizes = read_sizes(rows[0])
    steps = [read_row(rows[at], at) for at in range(1, len(rows))]
    return Machine(sizes.seed_bits, sizes.part_bits, sizes.depth, sizes.place_bits, steps)
