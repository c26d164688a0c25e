"""The names and boxes in the midst of a run, and what the deeds do to them."""

GONE = "gone"
TWICE = "twice"
CHANGED = "changed"

TOUCHES_FIRST = ("show", "set", "drop")
TOUCHES_SECOND = ("move", "look", "lend", "aim")
# Deeds that set every box they touch, or let it go.
CHANGES = ("set", "drop", "end of block")


class Store:
    """names: the box of each name, the count at which a reference has it (None for an
    owner), and whether it is empty; boxes: the number of each box, how often it was
    set, and whether it was let go; shown: the numbers shown so far.
    """

    def __init__(self, names, boxes, shown):
        self.names = names
        self.boxes = boxes
        self.shown = shown

    def copied(self):
        """A store of its own that holds the same."""
        return Store(dict(self.names), dict(self.boxes), self.shown)

    def place(self):
        """A tuple that is the same for stores that differ in nothing but what was shown."""
        return (tuple(sorted(self.names.items())), tuple(sorted(self.boxes.items())))

    def box_of(self, name):
        """The box that a name has."""
        return self.names[name][0]

    def is_gone(self, name):
        """Whether the box of a name was let go."""
        return self.boxes[self.box_of(name)][2]

    def why_wrong(self, name):
        """Why it is wrong to show or set by a name, "" if it is not."""
        box, count, _ = self.names[name]
        if self.is_gone(name):
            return GONE
        if count is not None and count != self.boxes[box][1]:
            return CHANGED
        return ""

    def let_go(self, name):
        """Let the box of a name go; returns why that is wrong, "" if it is not."""
        if self.is_gone(name):
            return TWICE
        number, count, _ = self.boxes[self.box_of(name)]
        self.boxes[self.box_of(name)] = (number, count, True)
        return ""

    def make_empty(self, owner):
        """Let an owner be empty; it keeps the box that it had."""
        self.names[owner] = (self.box_of(owner), None, True)


def do_box(design, store, deed):
    """A new box is made."""
    _, name, number, box = deed
    store.boxes[box] = (number, 0, False)
    store.names[name] = (box, None, False)
    return ""


def do_move(design, store, deed):
    """A new owner gets a box."""
    _, new, old = deed
    if store.is_gone(old):
        return GONE
    store.names[new] = (store.box_of(old), None, False)
    if "two names" not in design:
        store.make_empty(old)
    return ""


def do_refer(design, store, deed):
    """A reference gets a box, with the box's count or that of the look it follows."""
    _, name, other = deed
    if store.is_gone(other):
        return GONE
    box, count, _ = store.names[other]
    if count is None:
        count = store.boxes[box][1]
    store.names[name] = (box, count, False)
    return ""


def do_show(design, store, deed):
    """A number is shown."""
    why = store.why_wrong(deed[1])
    if why == "":
        store.shown += (store.boxes[store.box_of(deed[1])][0],)
    return why


def do_set(design, store, deed):
    """A number is set, and its lend keeps pace with the count."""
    _, name, number = deed
    why = store.why_wrong(name)
    if why != "":
        return why
    box, count, empty = store.names[name]
    now = store.boxes[box][1] + 1
    store.boxes[box] = (number, now, False)
    store.names[name] = (box, None if count is None else now, empty)
    return ""


def do_drop(design, store, deed):
    """A box is let go by its owner."""
    why = store.let_go(deed[1])
    store.make_empty(deed[1])
    return why


def do_end(design, store, deed):
    """A reference ends, which a run does not see."""
    return ""


def do_end_of_block(design, store, deed):
    """The boxes owned in a block are let go, and its names are no longer there."""
    _, owners, made = deed
    for name in owners:
        if not store.names[name][2]:
            why = store.let_go(name)
            if why != "":
                return why
    for name in made:
        del store.names[name]
    return ""


DEEDS = {
    "box": do_box,
    "move": do_move,
    "look": do_refer,
    "lend": do_refer,
    "show": do_show,
    "set": do_set,
    "drop": do_drop,
    "end": do_end,
    "aim": do_refer,
    "end of block": do_end_of_block,
}


def do(design, store, deed):
    """Do a deed; returns why it goes wrong, "" if it does not."""
    action = DEEDS[deed[0]]
    return action(design, store, deed)


def boxes_touched(store, deed):
    """The boxes that the next deed of a hand touches."""
    if deed[0] in TOUCHES_FIRST:
        return [store.box_of(deed[1])]
    if deed[0] in TOUCHES_SECOND:
        return [store.box_of(deed[2])]
    if deed[0] == "end of block":
        return [store.box_of(name) for name in deed[1] if not store.names[name][2]]
    return []


def is_race(store, one, other):
    """Whether the next deeds of both hands touch one box that one of them changes."""
    if one[0] not in CHANGES and other[0] not in CHANGES:
        return False
    touched = boxes_touched(store, other)
    return any([box in touched for box in boxes_touched(store, one)])
