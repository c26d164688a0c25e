"""Which names the statements of a body make, touch and work on."""

MAKERS = ("box", "move", "look", "lend")
OF_TWO_NAMES = ("move", "look", "lend", "aim")
WORKS_ON_FIRST = ("set", "drop", "end", "aim")
WORKS_ON_SECOND = ("move", "lend")


def plain_statements(body):
    """The plain statements of a body in order, those of its blocks included."""
    found = []
    for statement in body:
        if statement[0] == "block":
            found.extend(statement[1])
        else:
            found.append(statement)
    return found


def made_in(body):
    """The names that a body and its blocks make, in order."""
    return [statement[1] for statement in plain_statements(body) if statement[0] in MAKERS]


def touched_in(body):
    """The names that a body names."""
    found = []
    for statement in plain_statements(body):
        found.append(statement[1])
        if statement[0] in OF_TWO_NAMES:
            found.append(statement[2])
    return found


def worked_on_in(body):
    """The names that a body works on."""
    found = []
    for statement in plain_statements(body):
        if statement[0] in WORKS_ON_FIRST:
            found.append(statement[1])
        elif statement[0] in WORKS_ON_SECOND:
            found.append(statement[2])
    return found
