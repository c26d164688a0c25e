"""Which designs are sound, and what is fewest to be given up by those that are not."""

from itertools import combinations

from ownedborder.designs import WORDS, require_design, with_word
from ownedborder.errors import NotMade

# Each lot with the program that it breaks, ascending.
BREAKERS = (
    (
        ("blocks", "far"),
        (("box", 0, 1), ("look", 1, 0), ("block", (("box", 2, 2), ("aim", 1, 2))), ("show", 1)),
    ),
    (
        ("blocks", "hands", "share"),
        (("box", 0, 1), ("hands", (("block", (("move", 1, 0),)),), (("show", 0),))),
    ),
    (
        ("blocks", "move looked"),
        (("box", 0, 1), ("look", 1, 0), ("block", (("move", 2, 0),)), ("show", 1)),
    ),
    (
        ("blocks", "two names"),
        (("box", 0, 1), ("block", (("move", 1, 0),)), ("show", 0)),
    ),
    (
        ("blocks", "use lent"),
        (("box", 0, 1), ("lend", 1, 0), ("block", (("move", 2, 0),)), ("show", 1)),
    ),
    (
        ("drop", "drop looked"),
        (("box", 0, 1), ("look", 1, 0), ("drop", 0), ("show", 1)),
    ),
    (
        ("drop", "hands", "share"),
        (("box", 0, 1), ("hands", (("drop", 0),), (("show", 0),))),
    ),
    (
        ("drop", "move looked"),
        (("box", 0, 1), ("look", 1, 0), ("move", 2, 0), ("drop", 2), ("show", 1)),
    ),
    (
        ("drop", "two names"),
        (("box", 0, 1), ("move", 1, 0), ("drop", 1), ("show", 0)),
    ),
    (
        ("drop", "use lent"),
        (("box", 0, 1), ("lend", 1, 0), ("drop", 0), ("show", 1)),
    ),
    (
        ("hands", "set", "share"),
        (("box", 0, 1), ("hands", (("set", 0, 2),), (("show", 0),))),
    ),
    (
        ("lend looked", "set"),
        (("box", 0, 1), ("look", 1, 0), ("lend", 2, 0), ("set", 2, 2), ("show", 1)),
    ),
    (
        ("move looked", "set"),
        (("box", 0, 1), ("look", 1, 0), ("move", 2, 0), ("set", 2, 2), ("show", 1)),
    ),
    (
        ("set", "set looked"),
        (("box", 0, 1), ("look", 1, 0), ("set", 0, 2), ("show", 1)),
    ),
    (
        ("set", "two names"),
        (("box", 0, 1), ("move", 1, 0), ("look", 2, 0), ("set", 1, 2), ("show", 2)),
    ),
    (
        ("set", "use lent"),
        (("box", 0, 1), ("lend", 1, 0), ("set", 0, 2), ("show", 1)),
    ),
)


def lots():
    """The lots, ascending."""
    return tuple([lot for lot, _ in BREAKERS])


def holds(design, lot):
    """Whether a design holds a lot whole."""
    return all([word in design for word in lot])


def holds_none(design):
    """Whether a design holds no lot whole."""
    return not any([holds(design, lot) for lot in lots()])


def breaker(design):
    """The program of the least lot that a design holds, None for a sound design."""
    require_design(design)
    for lot, program in BREAKERS:
        if holds(design, lot):
            return program
    return None


def is_sound(design):
    """Whether no run of a program that the design lets by goes wrong."""
    require_design(design)
    return holds_none(design)


def lots_in(design):
    """The lots that a design holds, ascending."""
    require_design(design)
    return tuple([lot for lot in lots() if holds(design, lot)])


def further_words(design):
    """The words that a design does not hold."""
    return [word for word in WORDS if word not in design]


def sound_ones_above(design):
    """The sound designs that hold all words of a sound one, itself included.

    They are found word by word, as a design without some words of a sound one is sound.
    """
    found = [design]
    for word in further_words(design):
        wider = [with_word(one, word) for one in found]
        found.extend([one for one in wider if holds_none(one)])
    return found


def is_greatest(design):
    """Whether a sound design is sound with none of the further words."""
    return not any([holds_none(with_word(design, word)) for word in further_words(design)])


def greatest_sound(design):
    """The greatest sound designs that hold all words of a sound one, ascending."""
    require_design(design)
    if not holds_none(design):
        raise NotMade("the design is not sound")
    return tuple(sorted([one for one in sound_ones_above(design) if is_greatest(one)]))


def fewest_drops(design):
    """The fewest words without which a design is sound, the least tuple of them."""
    require_design(design)
    held = list(design)
    for many in range(len(held)):
        for words in combinations(held, many):
            if holds_none(tuple([word for word in design if word not in words])):
                return words
    return design
