"""Whether a plain statement may stand, and what it changes if it does.

Each function takes a design, the scope of the place, and the statement. It returns
whether the statement may stand; the scope is changed only if it may.
"""

from ownedborder.scopes import LEND, LOOK, OWNER


def may_use(design, scope, name):
    """Whether the name is an owner that may be used."""
    return scope.is_live(name, OWNER) and ("use lent" in design or not scope.has_on(name, LEND))


def may_use_unlooked(design, scope, name, word):
    """Whether it may be used, and is not looked at unless the design holds the word."""
    return may_use(design, scope, name) and (word in design or not scope.has_on(name, LOOK))


def aim_of(design, scope, name):
    """The owner's name that a look at this name is on, None if it cannot be looked at."""
    if may_use(design, scope, name):
        return name
    if scope.is_live(name, LOOK):
        return scope.entries[name].on
    return None


def take_box(design, scope, statement):
    """A new name owns a new box."""
    if not scope.is_new(statement[1]):
        return False
    scope.make(statement[1], OWNER, None)
    return True


def take_move(design, scope, statement):
    """A new name owns another owner's box."""
    _, new, old = statement
    if not scope.is_new(new) or not may_use_unlooked(design, scope, old, "move looked"):
        return False
    scope.make(new, OWNER, None)
    if "two names" not in design:
        scope.finish(old)
    return True


def take_look(design, scope, statement):
    """A new name looks at an owner, or where another look does."""
    _, new, old = statement
    on = aim_of(design, scope, old)
    if not scope.is_new(new) or on is None:
        return False
    scope.make(new, LOOK, on)
    return True


def take_lend(design, scope, statement):
    """A new name has an owner lent."""
    _, new, old = statement
    if not scope.is_new(new) or not may_use_unlooked(design, scope, old, "lend looked"):
        return False
    scope.make(new, LEND, old)
    return True


def take_show(design, scope, statement):
    """An owner or a reference is shown."""
    name = statement[1]
    return may_use(design, scope, name) or scope.is_live(name, LOOK) or scope.is_live(name, LEND)


def take_set(design, scope, statement):
    """A box is set, by its owner or by a lend."""
    name = statement[1]
    if "set" not in design:
        return False
    return scope.is_live(name, LEND) or may_use_unlooked(design, scope, name, "set looked")


def take_drop(design, scope, statement):
    """An owner's box is let go."""
    name = statement[1]
    if "drop" not in design or not may_use_unlooked(design, scope, name, "drop looked"):
        return False
    scope.finish(name)
    return True


def take_end(design, scope, statement):
    """A reference ends."""
    name = statement[1]
    if not scope.is_live(name, LOOK) and not scope.is_live(name, LEND):
        return False
    scope.finish(name)
    return True


def take_aim(design, scope, statement):
    """A look is put on another owner."""
    _, name, other = statement
    on = aim_of(design, scope, other)
    if not scope.is_kind(name, LOOK) or on is None:
        return False
    if "far" not in design and not scope.reaches(on, name):
        return False
    scope.aim(name, on)
    return True


TAKES = {
    "box": take_box,
    "move": take_move,
    "look": take_look,
    "lend": take_lend,
    "show": take_show,
    "set": take_set,
    "drop": take_drop,
    "end": take_end,
    "aim": take_aim,
}


def take(design, scope, statement):
    """Whether a plain statement may stand; what it changes is changed then."""
    action = TAKES[statement[0]]
    return action(design, scope, statement)
