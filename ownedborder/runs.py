"""How runs of a program go, by given picks and by any."""

from ownedborder.checker import require_let_by
from ownedborder.courses import started
from ownedborder.designs import require_design
from ownedborder.errors import BadPicks
from ownedborder.programs import is_integer, require_program

MOST_PICKS = 30


def require_picks(value):
    """Raise BadPicks if the value is no tuple of 1 to 30 numbers 0 and 1."""
    if not isinstance(value, tuple) or not 1 <= len(value) <= MOST_PICKS:
        raise BadPicks("no tuple of 1 to 30 picks")
    if not all([is_integer(item) and item in (0, 1) for item in value]):
        raise BadPicks("a pick that is neither 0 nor 1")


def run(design, program, picks):
    """The run of a program by the picks: how it goes, why it goes wrong, and what it shows."""
    require_design(design)
    require_program(program)
    require_picks(picks)
    require_let_by(design, program)
    course = started(design, program)
    taken = 0
    while not course.is_over():
        course = course.picked(picks[taken % len(picks)])
        taken += 1
    return course.ending()


def weavings(design, program):
    """All that runs of a program can come to, ascending."""
    require_let_by(design, program)
    found = set()
    seen = set()
    waiting = [started(design, program)]
    while waiting:
        course = waiting.pop()
        if course.is_over():
            found.add(course.ending())
            continue
        for hand in (0, 1):
            after = course.picked(hand)
            place = (after.place(), after.store.shown)
            if place not in seen:
                seen.add(place)
                waiting.append(after)
    return tuple(sorted(found))


def wrong_picks(design, program):
    """The least of the shortest tuples of picks by which a run goes wrong, or None."""
    require_let_by(design, program)
    seen = set()
    level = [(started(design, program), ())]
    while level:
        following = []
        for course, picks in level:
            if course.why != "":
                return picks if picks else (0,)
            if course.is_over():
                continue
            for hand in (0, 1):
                after = course.picked(hand)
                place = after.place()
                # The first way to a place is the least of the shortest ones.
                if place not in seen:
                    seen.add(place)
                    following.append((after, picks + (hand,)))
        level = following
    return None
