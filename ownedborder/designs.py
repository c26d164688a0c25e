"""Which values are designs."""

from ownedborder.errors import BadDesign

WORDS = (
    "blocks",
    "drop",
    "drop looked",
    "far",
    "hands",
    "lend looked",
    "move looked",
    "set",
    "set looked",
    "share",
    "two names",
    "use lent",
)


def is_word(value):
    """Whether the value is a word of designs."""
    return isinstance(value, str) and value in WORDS


def is_design(value):
    """Whether the value is a design."""
    if not isinstance(value, tuple) or not all([is_word(item) for item in value]):
        return False
    return all([one < other for one, other in zip(value, value[1:])])


def require_design(value):
    """Raise BadDesign if the value is no design."""
    if not is_design(value):
        raise BadDesign("no design")


def with_word(design, word):
    """A design with one further word."""
    return tuple(sorted(design + (word,)))


def without_word(design, word):
    """A design without one of its words."""
    return tuple([one for one in design if one != word])
