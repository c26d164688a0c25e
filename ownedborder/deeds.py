"""The deeds of a program: what its two hands do, one deed after the other."""

from ownedborder.statements import made_in


def end_of_block(body):
    """The deed that ends a block: the owners made in it, in order, and all names made in it."""
    owners = [statement[1] for statement in body if statement[0] in ("box", "move")]
    return ("end of block", tuple(owners), tuple(made_in(body)))


def deeds_of(body):
    """The deeds of a body, in order."""
    found = []
    for statement in body:
        if statement[0] == "block":
            found.extend(statement[1])
            found.append(end_of_block(statement[1]))
        else:
            found.append(statement)
    return found


def with_boxes(deeds, first):
    """The deeds, each box statement with a number for its box, no two alike from first on.

    The numbers are fixed ahead of a run, so that weavings which made the same boxes in
    another order come to the same store.
    """
    found = []
    for at, deed in enumerate(deeds):
        found.append(deed + (first + at,) if deed[0] == "box" else deed)
    return found


def lanes(program):
    """For each statement of a program the pair of the deeds of the first and the second hand.

    Outside of hands the second hand has nothing to do.
    """
    found = []
    many = 0
    for statement in program:
        bodies = statement[1:] if statement[0] == "hands" else ((statement,), ())
        first, second = deeds_of(bodies[0]), deeds_of(bodies[1])
        found.append((with_boxes(first, many), with_boxes(second, many + len(first))))
        many += len(first) + len(second)
    return found
