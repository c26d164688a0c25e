"""A run under way."""

from ownedborder.deeds import lanes
from ownedborder.stores import Store, do, is_race


class Course:
    """words: the design; pairs: the deeds of both hands for each statement; part: the
    statement it is at; done: how many deeds of it each hand has done; why: the word of
    what went wrong.
    """

    def __init__(self, design, pairs, part, done, store, why):
        self.words = design
        self.pairs = pairs
        self.part = part
        self.done = done
        self.store = store
        self.why = why

    def has_left(self, hand):
        """Whether a hand has a deed left in the statement."""
        return self.done[hand] < len(self.pairs[self.part][hand])

    def next_deed(self, hand):
        """The next deed of a hand that has one left."""
        return self.pairs[self.part][hand][self.done[hand]]

    def is_over(self):
        """Whether the run went wrong or has ended."""
        return self.why != "" or self.part == len(self.pairs)

    def advance(self, hand):
        """Do the next deed of a hand."""
        self.why = do(self.words, self.store, self.next_deed(hand))
        first, second = self.done
        self.done = (first + 1, second) if hand == 0 else (first, second + 1)

    def go_on(self):
        """Do all deeds that stand ahead of the next pick; behind this it is over or needs one."""
        while not self.is_over():
            if self.has_left(0) and self.has_left(1):
                if is_race(self.store, self.next_deed(0), self.next_deed(1)):
                    self.why = "race"
                return
            if self.has_left(0):
                self.advance(0)
            elif self.has_left(1):
                self.advance(1)
            else:
                self.part += 1
                self.done = (0, 0)

    def picked(self, hand):
        """The course that comes of this one by a pick, as far as the next one."""
        store = self.store.copied()
        after = Course(self.words, self.pairs, self.part, self.done, store, self.why)
        after.advance(hand)
        after.go_on()
        return after

    def ending(self):
        """How a course that is over has gone."""
        return ("ends" if self.why == "" else "wrong", self.why, self.store.shown)

    def place(self):
        """A tuple that is the same for courses that go on alike, whatever they showed so far."""
        return (self.part, self.done, self.why, self.store.place())


def started(design, program):
    """The course of a program as far as its first pick."""
    course = Course(design, lanes(program), 0, (0, 0), Store({}, {}, ()), "")
    course.go_on()
    return course
