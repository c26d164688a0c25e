"""A desk at which a design is changed word by word, and a program is looked at by it."""

from ownedborder.borders import is_sound
from ownedborder.checker import fault, lets_by
from ownedborder.designs import is_word, require_design, with_word, without_word
from ownedborder.errors import InvalidText, NothingToUndo, NotNow, NotText
from ownedborder.programs import require_program
from ownedborder.runs import weavings


def ways(design, program):
    """The weavings of a program that the design lets by."""
    if not lets_by(design, program):
        raise NotNow("the design does not let the program by")
    return weavings(design, program)


def answer_fault(design, program):
    """The place of the first fault."""
    place = fault(design, program)
    return "none" if place is None else ".".join([str(number) for number in place])


def answer_sound(design, program):
    """Whether the design is sound, whatever the program."""
    return "yes" if is_sound(design) else "no"


def answer_ends(design, program):
    """How many weavings there are."""
    return str(len(ways(design, program)))


def answer_wrong(design, program):
    """The words of what goes wrong in some weaving."""
    return " ".join(sorted({why for how, why, _ in ways(design, program) if how == "wrong"}))


ANSWERS = {
    "fault": answer_fault,
    "sound": answer_sound,
    "ends": answer_ends,
    "wrong": answer_wrong,
}


class Desk:
    """A design and a program. The program stays, the design is changed by lines."""

    def __init__(self, design, program):
        require_design(design)
        require_program(program)
        self._design = design
        self._program = program
        self._earlier = []

    @property
    def design(self):
        """The design as it is now."""
        return self._design

    def run(self, line):
        """The answer to a line, None for one that changes the design."""
        if not isinstance(line, str):
            raise NotText("no string")
        if line in ANSWERS:
            answer = ANSWERS[line]
            return answer(self._design, self._program)
        verb, _, word = line.partition(" ")
        if verb not in ("permit", "forbid") or not is_word(word):
            raise InvalidText(1)
        self._change(word, verb == "permit")
        return None

    def _change(self, word, is_put_in):
        """Put a word into the design or out of it."""
        if (word in self._design) == is_put_in:
            raise NotNow("the word is there already, or is not there")
        self._earlier.append(self._design)
        if is_put_in:
            self._design = with_word(self._design, word)
        else:
            self._design = without_word(self._design, word)

    def undo(self):
        """Take the last change back."""
        if not self._earlier:
            raise NothingToUndo("no change is left")
        self._design = self._earlier.pop()
