"""Which of two designs lets by all that the other one does."""

from ownedborder.borders import breaker
from ownedborder.designs import require_design

# The words that count for something only beside another one, with that other one.
BESIDE = {
    "drop looked": "drop",
    "far": "blocks",
    "set looked": "set",
    "share": "hands",
}

# For a strength the program that is not let by without it; those lacking break a lot.
PARTINGS = {
    "blocks": (("block", ()),),
    "drop": (("box", 0, 1), ("drop", 0)),
    "hands": (("hands", (), ()),),
    "lend looked": (("box", 0, 1), ("look", 1, 0), ("lend", 2, 0)),
    "move looked": (("box", 0, 1), ("look", 1, 0), ("move", 2, 0)),
    "set": (("box", 0, 1), ("set", 0, 2)),
    "share": (("box", 0, 1), ("hands", (("lend", 1, 0),), (("show", 0),))),
    "two names": (("box", 0, 1), ("move", 1, 0), ("show", 0)),
    "use lent": (("box", 0, 1), ("lend", 1, 0), ("show", 0)),
}


def is_strength(design, word):
    """Whether a word of a design counts for something in it."""
    return word not in BESIDE or BESIDE[word] in design


def strengths(design):
    """The words of a design that count for something in it, ascending."""
    require_design(design)
    return tuple([word for word in design if is_strength(design, word)])


def lacking(one, other):
    """The strengths that other has and one has not, ascending."""
    held = strengths(one)
    return [word for word in strengths(other) if word not in held]


def lets_by_all(one, other):
    """Whether one lets by each program that other lets by."""
    return not lacking(one, other)


def parting_by(word):
    """The program that is let by with a strength, and not without it."""
    if word in PARTINGS:
        return PARTINGS[word]
    return breaker((BESIDE[word], word))


def parting(one, other):
    """A program that other lets by and one does not, None if there is none."""
    words = lacking(one, other)
    return parting_by(words[0]) if words else None
