"""The names that are known at one place of a program, and what each of them is there."""

OWNER = "owner"
LOOK = "look"
LEND = "lend"


class Entry:
    """What a known name is. An entry is never changed, so copies of a scope share it.

    live tells of an owner whether it owns, of a reference whether it lives;
    on is the name that a reference is on; depth counts the bodies around the
    body in which the name was made.
    """

    def __init__(self, kind, live, on, depth):
        self.kind = kind
        self.live = live
        self.on = on
        self.depth = depth


class Scope:
    """The names known in a body, with those that may not be made there although unknown."""

    def __init__(self, entries, depth, barred):
        self.entries = entries
        self.depth = depth
        self.barred = barred

    def is_new(self, name):
        """Whether the name may be made here."""
        return name not in self.entries and name not in self.barred

    def is_kind(self, name, kind):
        """Whether the name is known as one of the kind, at hand or not."""
        return name in self.entries and self.entries[name].kind == kind

    def is_live(self, name, kind):
        """Whether the name is one of the kind that owns or lives."""
        return self.is_kind(name, kind) and self.entries[name].live

    def has_on(self, name, kind):
        """Whether a living reference of the kind is on the name."""
        return any([entry.kind == kind and entry.live and entry.on == name for entry in self.entries.values()])

    def reaches(self, name, other):
        """Whether name is known, and made in the body in which other was made or around it.

        The bodies of all known names lie around one another, so their depths tell it.
        """
        return name in self.entries and self.entries[name].depth <= self.entries[other].depth

    def make(self, name, kind, on):
        """Make a name in this body."""
        self.entries[name] = Entry(kind, True, on, self.depth)

    def finish(self, name):
        """Let an owner be empty from here on, or a reference be ended."""
        old = self.entries[name]
        self.entries[name] = Entry(old.kind, False, old.on, old.depth)

    def aim(self, name, on):
        """Let a look live on another name."""
        old = self.entries[name]
        self.entries[name] = Entry(old.kind, True, on, old.depth)

    def enter(self):
        """Begin a block."""
        self.depth += 1

    def leave(self):
        """End a block, and forget the names made in it."""
        self.entries = {name: entry for name, entry in self.entries.items() if entry.depth < self.depth}
        self.depth -= 1

    def hand(self, barred):
        """The scope at the beginning of a body of hands that stands here."""
        return Scope(dict(self.entries), self.depth + 1, {name: True for name in barred})

    def merge(self, first, second, worked_on):
        """Go on behind hands: worked_on are the names that the second body works on."""
        joined = {}
        for name, entry in self.entries.items():
            ahead, behind = first.entries[name], second.entries[name]
            if entry.kind == OWNER:
                joined[name] = behind if ahead.live else ahead
            else:
                joined[name] = behind if name in worked_on else ahead
        self.entries = joined
