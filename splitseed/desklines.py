"""The lines of a desk, read as a word and the values behind it."""

from splitseed.errors import NoLine, NoText
from splitseed.hands import MOST_PARTS
from splitseed.shapetext import read_shape
from splitseed.steptext import read_step
from splitseed.tables import HOUSE
from splitseed.words import is_name, plain_number

# Twenty figures; which of these numbers can stand there, each line tells.
GREATEST_SAID = 10 ** 20 - 1

# What stands behind the word of each line.
FORMS = {
    "machine": ("number", "number", "number", "number"),
    "step": ("step",),
    "show": ("shown",),
    "seed": ("number", "name"),
    "read": ("name", "text"),
    "draw": ("name", "number"),
    "jump": ("name", "number"),
    "take": ("name", "shape"),
    "shuffle": ("name", "number"),
    "part": ("name", "parts"),
    "join": ("name", "names"),
    "drop": ("name",),
    "hands": (),
    "where": ("number",),
    "who": ("number",),
    "count": ("shape",),
    "row": ("text",),
    "rows": (),
    "clear": (),
    "deal": ("number",),
    "serve": ("names",),
    "rest": (),
    "hold": ("name", "holder"),
    "call": ("holder",),
    "came": ("name",),
    "papers": ("name",),
    "tree": (),
    "drew": ("number",),
}


def said_number(words):
    """The number that is said by one word, or None."""
    return plain_number(words[0], GREATEST_SAID) if len(words) == 1 else None


def said_name(words):
    """The name that is said by one word, or None."""
    return words[0] if len(words) == 1 and is_name(words[0]) else None


def said_holder(words):
    """The holder that is said by one word, or None."""
    return HOUSE if words == [HOUSE] else said_name(words)


def said_shown(words):
    """The name, or the word machine, that is said by one word, or None."""
    return "machine" if words == ["machine"] else said_name(words)


def said_names(words):
    """The names that are said, one or more, or None."""
    return words if len(words) > 0 and all(is_name(word) for word in words) else None


def said_parts(words):
    """The names that are said, as many as a hand may be split into at once, or None."""
    return said_names(words) if len(words) <= MOST_PARTS else None


def said_text(words):
    """The text of the words that are said, one or more, or None."""
    return " ".join(words) if len(words) > 0 else None


def said_step(words):
    """The step whose words are said, or None."""
    try:
        return read_step(" ".join(words))
    except NoText:
        return None


def said_shape(words):
    """The shape whose words are said, or None; refused where it has too many numbers."""
    try:
        return read_shape(" ".join(words))
    except NoText:
        return None


READERS = {
    "number": said_number,
    "name": said_name,
    "holder": said_holder,
    "shown": said_shown,
    "names": said_names,
    "parts": said_parts,
    "text": said_text,
    "step": said_step,
    "shape": said_shape,
}


def values_by(form, words):
    """The values of the words behind the word of a line, by its form; None where they aren't said so."""
    if len(form) == 0:
        return [] if len(words) == 0 else None
    values = []
    for at, kind in enumerate(form):
        # The last kind has all words that are left.
        end = at + 1 if at + 1 < len(form) else len(words)
        reader = READERS[kind]
        value = reader(words[at:end])
        if value is None:
            return None
        values.append(value)
    return values


def line_words(line):
    """The words of any thing as line."""
    if not isinstance(line, str):
        raise NoLine(line)
    words = line.split(" ")
    if "" in words or "\n" in line:
        raise NoLine(line)
    return words


def read_line(line):
    """The word of a line and the list of the values behind it, of any thing."""
    words = line_words(line)
    if words[0] not in FORMS:
        raise NoLine(line)
    values = values_by(FORMS[words[0]], words[1:])
    if values is None:
        raise NoLine(line)
    return (words[0], values)
