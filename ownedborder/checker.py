"""Whether a design lets a program by, and where it first does not."""

from ownedborder.designs import require_design
from ownedborder.errors import NotMade
from ownedborder.programs import require_program
from ownedborder.rules import take
from ownedborder.scopes import LOOK, OWNER, Scope
from ownedborder.statements import made_in, touched_in, worked_on_in


def fault_in_body(design, scope, body, place):
    """The place of the first fault of a body whose statements stand at place, or None."""
    for at, statement in enumerate(body):
        found = fault_of(design, scope, statement, place + (at,))
        if found is not None:
            return found
    return None


def fault_of(design, scope, statement, place):
    """The place of the first fault of the statement at place, or None."""
    if statement[0] == "block":
        return fault_of_block(design, scope, statement, place)
    if statement[0] == "hands":
        return fault_of_hands(design, scope, statement, place)
    return None if take(design, scope, statement) else place


def fault_of_block(design, scope, block, place):
    """The place of the first fault of a block, or None."""
    if "blocks" not in design:
        return place
    scope.enter()
    found = fault_in_body(design, scope, block[1], place)
    scope.leave()
    return found


def fault_of_hands(design, scope, hands, place):
    """The place of the first fault of hands, or None."""
    if "hands" not in design:
        return place
    first = scope.hand([])
    found = fault_in_body(design, first, hands[1], place + (0,))
    if found is not None:
        return found
    second = scope.hand(made_in(hands[1]))
    found = fault_in_body(design, second, hands[2], place + (1,))
    if found is not None:
        return found
    if "share" not in design and are_at_odds(scope, hands):
        return place
    scope.merge(first, second, worked_on_in(hands[2]))
    return None


def are_at_odds(scope, hands):
    """Whether both bodies touch a name known ahead of them, and one works on it."""
    first, second = touched_in(hands[1]), touched_in(hands[2])
    worked_on = worked_on_in(hands[1]) + worked_on_in(hands[2])
    return any([name in first and name in second for name in worked_on if name in scope.entries])


def fault(design, program):
    """The place of the first fault of a program, None if the design lets it by."""
    require_design(design)
    require_program(program)
    return fault_in_body(design, Scope({}, 0, {}), program, ())


def lets_by(design, program):
    """Whether the design lets the program by."""
    return fault(design, program) is None


def how_of(entry):
    """The word for what a name is."""
    if entry.kind == OWNER:
        return "owns" if entry.live else "empty"
    if not entry.live:
        return "ended"
    return "looks" if entry.kind == LOOK else "lent"


def known(design, program):
    """The names known at the end of a program, ascending, each with what it is there."""
    require_design(design)
    require_program(program)
    scope = Scope({}, 0, {})
    if fault_in_body(design, scope, program, ()) is not None:
        raise NotMade("the design does not let the program by")
    return tuple([(name, how_of(scope.entries[name])) for name in sorted(scope.entries)])


def require_let_by(design, program):
    """Raise BadDesign, BadProgram, or NotMade if the design does not let the program by."""
    if not lets_by(design, program):
        raise NotMade("the design does not let the program by")
