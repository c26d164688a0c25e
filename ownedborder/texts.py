"""Programs as texts, a line for each plain statement and for the bounds of each body."""

from ownedborder.errors import InvalidText, NotText
from ownedborder.programs import HIGHEST_NUMBER, LONGEST_BLOCK, LONGEST_HAND, LONGEST_PROGRAM
from ownedborder.programs import is_of_hand, is_plain, require_program


def lines_of(statement):
    """The lines of a statement."""
    if statement[0] == "block":
        return ["block", *lines_of_body(statement[1]), "end block"]
    if statement[0] == "hands":
        first, second = lines_of_body(statement[1]), lines_of_body(statement[2])
        return ["hands", *first, "beside", *second, "end hands"]
    return [" ".join([str(item) for item in statement])]


def lines_of_body(body):
    """The lines of all statements of a body."""
    found = []
    for statement in body:
        found.extend(lines_of(statement))
    return found


def write_program(program):
    """The text of a program."""
    require_program(program)
    return "\n".join(lines_of_body(program))


class Lines:
    """The lines of a text, taken one after the other; taken counts them."""

    def __init__(self, rows):
        self.rows = rows
        self.taken = 0

    def are_over(self):
        """Whether all lines are taken."""
        return self.taken == len(self.rows)

    def next_is(self, row):
        """Whether this line comes next."""
        return not self.are_over() and self.rows[self.taken] == row

    def take(self):
        """Take the next line."""
        if self.are_over():
            raise InvalidText(self.taken + 1)
        self.taken += 1
        return self.rows[self.taken - 1]


def values_of(line):
    """The items of the line of a plain statement, None for each that is no number of programs."""
    # Looked up, not read, so that nothing but the one way to write a number is taken.
    numbers = {str(number): number for number in range(HIGHEST_NUMBER + 1)}
    word, *written = line.split(" ")
    return (word, *[numbers.get(item) for item in written])


def read_plain(lines):
    """The plain statement that comes next."""
    statement = values_of(lines.take())
    if not is_plain(statement):
        raise InvalidText(lines.taken)
    return statement


def read_of_hand(lines):
    """The statement of a body of hands that comes next."""
    if lines.next_is("block"):
        return read_block(lines)
    statement = read_plain(lines)
    if not is_of_hand(statement):
        raise InvalidText(lines.taken)
    return statement


def read_item(lines):
    """The item of a program that comes next."""
    if lines.next_is("block"):
        return read_block(lines)
    if lines.next_is("hands"):
        return read_hands(lines)
    return read_plain(lines)


def read_body(lines, read_one, longest, ending):
    """A body of at most so many statements, and the line that ends it."""
    found = []
    while not lines.next_is(ending):
        if len(found) == longest:
            raise InvalidText(lines.taken + 1)
        found.append(read_one(lines))
    lines.take()
    return tuple(found)


def read_block(lines):
    """The block that comes next."""
    lines.take()
    return ("block", read_body(lines, read_plain, LONGEST_BLOCK, "end block"))


def read_hands(lines):
    """The hands that come next."""
    lines.take()
    first = read_body(lines, read_of_hand, LONGEST_HAND, "beside")
    return ("hands", first, read_body(lines, read_of_hand, LONGEST_HAND, "end hands"))


def read_program(text):
    """The program that a text writes."""
    if not isinstance(text, str):
        raise NotText("no string")
    lines = Lines(text.split("\n") if text != "" else [])
    found = []
    while not lines.are_over():
        if len(found) == LONGEST_PROGRAM:
            raise InvalidText(lines.taken + 1)
        found.append(read_item(lines))
    return tuple(found)
