"""Which values are programs."""

from ownedborder.errors import BadProgram

HIGHEST_NAME = 40
HIGHEST_NUMBER = 99
LONGEST_BLOCK = 6
LONGEST_HAND = 4
LONGEST_PROGRAM = 12

# What stands behind the word of each plain statement.
FORMS = {
    "box": ("name", "number"),
    "move": ("name", "name"),
    "look": ("name", "name"),
    "lend": ("name", "name"),
    "show": ("name",),
    "set": ("name", "number"),
    "drop": ("name",),
    "end": ("name",),
    "aim": ("name", "name"),
}


def is_integer(value):
    """Whether the value is an integer; True and False are none here."""
    return isinstance(value, int) and not isinstance(value, bool)


def is_operand(value, kind):
    """Whether the value is a name or a number, as the kind says."""
    highest = HIGHEST_NAME if kind == "name" else HIGHEST_NUMBER
    return is_integer(value) and 0 <= value <= highest


def has_word(value, length):
    """Whether the value is a tuple of that length that begins with a string."""
    return isinstance(value, tuple) and len(value) == length and isinstance(value[0], str)


def is_plain(value):
    """Whether the value is a plain statement."""
    if not (has_word(value, 2) or has_word(value, 3)):
        return False
    form = FORMS.get(value[0], ())
    if len(form) != len(value) - 1:
        return False
    return all([is_operand(item, kind) for item, kind in zip(value[1:], form)])


def is_tuple_up_to(value, longest):
    """Whether the value is a tuple of at most so many items."""
    return isinstance(value, tuple) and len(value) <= longest


def is_block(value):
    """Whether the value is a block."""
    if not has_word(value, 2) or value[0] != "block":
        return False
    body = value[1]
    return is_tuple_up_to(body, LONGEST_BLOCK) and all([is_plain(item) for item in body])


def is_of_hand(value):
    """Whether the value may stand straight in a body of hands."""
    if is_block(value):
        return True
    return is_plain(value) and value[0] not in ("box", "move")


def is_hand(value):
    """Whether the value is a body of hands."""
    return is_tuple_up_to(value, LONGEST_HAND) and all([is_of_hand(item) for item in value])


def is_hands(value):
    """Whether the value is hands, with both their bodies."""
    if not has_word(value, 3) or value[0] != "hands":
        return False
    return is_hand(value[1]) and is_hand(value[2])


def is_item(value):
    """Whether the value may stand straight in a program."""
    return is_plain(value) or is_block(value) or is_hands(value)


def is_program(value):
    """Whether the value is a program."""
    return is_tuple_up_to(value, LONGEST_PROGRAM) and all([is_item(item) for item in value])


def require_program(value):
    """Raise BadProgram if the value is no program."""
    if not is_tuple_up_to(value, LONGEST_PROGRAM):
        raise BadProgram(None)
    for at, item in enumerate(value):
        if not is_item(item):
            raise BadProgram(at)
