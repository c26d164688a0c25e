"""Values that the tests of several modules use."""

from ownedborder.checker import lets_by
from ownedborder.desks import Desk
from ownedborder.errors import BadDesign, BadProgram, NotMade

WORDS = (
    "blocks", "drop", "drop looked", "far", "hands", "lend looked",
    "move looked", "set", "set looked", "share", "two names", "use lent",
)

NO_DESIGNS = (
    None, True, False, 0, 7, "", "set", [], ["set"], {}, {"set": True}, BadDesign("x"),
    ("share", "set"), ("set", "set"), ("drop", "far", "far"), ("fly",), ("Set",), ("",), ("set ",),
    ("looked",), (None,), (True,), (1,), (("set",),), (["set"],), ({},), ("set", 1), ("blocks", None),
    WORDS + ("zoo",), tuple(reversed(WORDS)), Desk((), ()), (Desk((), ()),), ("set", BadDesign("x")),
)

PLAIN_WORDS = ("box", "move", "look", "lend", "show", "set", "drop", "end", "aim")

BOX = ("box", 0, 1)

# Pairs of a value that is no program, and the index that BadProgram tells of it.
NO_PROGRAMS = (
    (None, None), (True, None), (False, None), (0, None), ("", None), ("box", None), ([], None),
    ([BOX], None), ({}, None), (NotMade("x"), None), ((BOX,) * 13, None), ((None,) * 13, None),
    ((None,), 0), ((True,), 0), ((3,), 0), (("box",), 0), (("box", 0, 1), 0), (((),), 0), (([],), 0),
    (({},), 0), ((["box", 0, 1],), 0), ((BOX, BOX, "show"), 2), ((BOX, None, None), 1),
    ((BOX,) * 11 + (("box", 0),), 11), ((BOX, ("box", 41, 1)), 1), ((("box", True, 1),), 0),
    ((BOX, ("block", (BOX, ("show",)))), 1), ((("hands", (), (BOX,)),), 0), (Desk((), (BOX,)), None),
    ((BOX, Desk((), (BOX,))), 1), ((("show", NotMade("x")),), 0), ((("block", Desk((), ())),), 0),
)

# Values that are no strings.
NO_STRINGS = (
    None, True, False, 0, 5, -1, 10 ** 30, (), ("fault",), [], ["show 0"], {}, {"fault": 1}, NotMade("x"),
    Desk((), ()),
)

NO_PICKS = (
    (), None, True, 0, 1, "", "0", [], [0], {}, {0: 1}, NotMade("x"), (0,) * 31, (1,) * 31, (2,), (-1,),
    (0, 2), (True,), (False,), (0, True), (1, False), (None,), ("0",), ((0,),), ([],), (0, 1, {}),
)


def check_design_first(case, call):
    """call(design) raises BadDesign for whatever is no design."""
    for value in NO_DESIGNS:
        with case.subTest(design=repr(value)), case.assertRaises(BadDesign):
            call(value)


def check_program(case, call):
    """call(program) raises BadProgram with its index for whatever is no program."""
    for value, index in NO_PROGRAMS:
        with case.subTest(program=repr(value)):
            with case.assertRaises(BadProgram) as caught:
                call(value)
            case.assertEqual(caught.exception.index, index)
            case.assertNotIsInstance(caught.exception.index, bool)


def check_design_and_program(case, call):
    """call(design, program) raises BadDesign, then BadProgram with its index, then NotMade or nothing."""
    check_design_first(case, lambda design: call(design, ()))
    check_program(case, lambda program: call((), program))
    for value in NO_DESIGNS:
        with case.subTest(design=repr(value)), case.assertRaises(BadDesign):
            call(value, None)
        with case.subTest(design=repr(value), not_let_by=True), case.assertRaises(BadDesign):
            call(value, (("show", 0),))


def random_plain(chance, words, names=5):
    """A plain statement with one of the words, on the lowest names, as chance has it."""
    word = chance.choice(words)
    if word in ("move", "look", "lend", "aim"):
        return (word, chance.randrange(names), chance.randrange(names))
    if word in ("box", "set"):
        return (word, chance.randrange(names), chance.randrange(3))
    return (word, chance.randrange(names))


def random_body(chance, words, most, many_blocks):
    """A body of at most so many plain statements, with a block at its end for one of many_blocks."""
    body = [random_plain(chance, words) for _ in range(chance.randrange(most + 1))]
    if many_blocks and chance.randrange(many_blocks) == 0:
        body.append(("block", random_body(chance, PLAIN_WORDS, 2, 0)))
    return tuple(body)


def random_item(chance):
    """An item of a program, as chance has it."""
    kind = chance.randrange(8)
    if kind < 5:
        return random_plain(chance, PLAIN_WORDS)
    if kind < 6:
        return ("block", random_body(chance, PLAIN_WORDS, 3, 0))
    return ("hands", random_body(chance, PLAIN_WORDS[2:], 2, 2), random_body(chance, PLAIN_WORDS[2:], 2, 2))


def grown_program(chance, design, longest, tries=60):
    """A program that the design lets by, of items as they come."""
    program = (BOX, ("box", 1, 2))
    for _ in range(tries):
        wider = program + (random_item(chance),)
        if len(wider) <= longest and lets_by(design, wider):
            program = wider
    return program
