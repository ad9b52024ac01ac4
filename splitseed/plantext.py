"""Plans written as texts and read back."""

from splitseed.errors import NoPlan, NoText, TooWide
from splitseed.hands import MOST_PARTS
from splitseed.plans import COUNTED_ROWS, NAMING_ROWS, plan_of
from splitseed.shapes import shape_of
from splitseed.shapetext import read_shape
from splitseed.words import is_name, plain_number


def row_text(row):
    """The text of a row of a script."""
    word, inner = row
    if word in NAMING_ROWS:
        return " ".join([word] + list(inner))
    if word == "take":
        return f"take {shape_of(inner).words()}"
    return f"{word} {inner}"


def show_plan(plan):
    """The text of a plan: for each script its name and its rows, and at last the names served."""
    scripts, served = plan.told()
    texts = []
    for name, rows in scripts:
        texts.append(f"hand {name}")
        texts.extend([row_text(row) for row in rows])
    if len(served) > 0:
        texts.append(" ".join(["serve"] + list(served)))
    return "\n".join(texts)


def are_names(words):
    """Whether words are one name or more."""
    return len(words) > 0 and all(is_name(word) for word in words)


def told_shape(words):
    """What the shape tells that is written by these words, or None."""
    try:
        return read_shape(" ".join(words)).told()
    except (NoText, TooWide):
        return None


def counted(word, words):
    """The number that is told behind the word of a row, or None."""
    if len(words) != 1:
        return None
    least, greatest = COUNTED_ROWS[word]
    number = plain_number(words[0], greatest)
    return None if number is None or number < least else number


def inner_of(word, words):
    """What a row tells that has this word and these words behind it, or None where no row is written so."""
    if word in COUNTED_ROWS:
        return counted(word, words)
    if word in NAMING_ROWS:
        return tuple(words) if are_names(words) and len(words) <= MOST_PARTS else None
    return told_shape(words) if word == "take" else None


def read_title(words, at):
    """The name of the hand row that is written by these words."""
    if len(words) != 2 or words[0] != "hand" or not is_name(words[1]):
        raise NoPlan(at)
    return words[1]


def read_row(words, at):
    """The row of a script that is written by these words."""
    inner = inner_of(words[0], words[1:])
    if inner is None:
        raise NoPlan(at)
    return (words[0], inner)


def read_served(words, at, last):
    """The names of the serve row that is written by these words; refuses one that is not the last row."""
    if not are_names(words[1:]):
        raise NoPlan(at)
    if at < last:
        raise NoPlan(at + 1)
    return words[1:]


def read_plan(text):
    """The plan that is written so, of any thing."""
    if not isinstance(text, str):
        raise NoPlan(0)
    texts = text.split("\n")
    scripts = []
    served = None
    for at, row in enumerate(texts):
        words = row.split(" ")
        # What stands ahead of all others must be a hand row.
        if at == 0 or words[0] == "hand":
            scripts.append((read_title(words, at), []))
        elif words[0] == "serve":
            served = read_served(words, at, len(texts) - 1)
        else:
            scripts[-1][1].append(read_row(words, at))
    return plan_of(scripts, served)
