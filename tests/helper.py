"""Values that the tests of several modules use."""

from ownedborder.errors import BadDesign, BadProgram, NotMade

WORDS = (
    "blocks", "drop", "drop looked", "far", "hands", "lend looked",
    "move looked", "set", "set looked", "share", "two names", "use lent",
)

NO_DESIGNS = (
    None, True, False, 0, 7, "", "set", [], ["set"], {}, {"set": True}, BadDesign("x"),
    ("share", "set"), ("set", "set"), ("drop", "far", "far"), ("fly",), ("Set",), ("",), ("set ",),
    ("looked",), (None,), (True,), (1,), (("set",),), (["set"],), ({},), ("set", 1), ("blocks", None),
    WORDS + ("zoo",), tuple(reversed(WORDS)),
)

BOX = ("box", 0, 1)

# Pairs of a value that is no program, and the index that BadProgram tells of it.
NO_PROGRAMS = (
    (None, None), (True, None), (False, None), (0, None), ("", None), ("box", None), ([], None),
    ([BOX], None), ({}, None), (NotMade("x"), None), ((BOX,) * 13, None), ((None,) * 13, None),
    ((None,), 0), ((True,), 0), ((3,), 0), (("box",), 0), (("box", 0, 1), 0), (((),), 0), (([],), 0),
    (({},), 0), ((["box", 0, 1],), 0), ((BOX, BOX, "show"), 2), ((BOX, None, None), 1),
    ((BOX,) * 11 + (("box", 0),), 11), ((BOX, ("box", 41, 1)), 1), ((("box", True, 1),), 0),
    ((BOX, ("block", (BOX, ("show",)))), 1), ((("hands", (), (BOX,)),), 0),
)

NO_PICKS = (
    (), None, True, 0, 1, "", "0", [], [0], {}, {0: 1}, NotMade("x"), (0,) * 31, (1,) * 31, (2,), (-1,),
    (0, 2), (True,), (False,), (0, True), (1, False), (None,), ("0",), ((0,),), ([],), (0, 1, {}),
)


def check_design_first(case, call):
    """call(design) raises BadDesign for whatever is no design."""
    for value in NO_DESIGNS:
        with case.subTest(design=repr(value)), case.assertRaises(BadDesign):
            call(value)


def check_design_and_program(case, call):
    """call(design, program) raises BadDesign, then BadProgram with its index, then NotMade or nothing."""
    check_design_first(case, lambda design: call(design, ()))
    for value, index in NO_PROGRAMS:
        with case.subTest(program=repr(value)):
            with case.assertRaises(BadProgram) as caught:
                call((), value)
            case.assertEqual(caught.exception.index, index)
            case.assertNotIsInstance(caught.exception.index, bool)
    for value in NO_DESIGNS:
        with case.subTest(design=repr(value)), case.assertRaises(BadDesign):
            call(value, None)
        with case.subTest(design=repr(value), not_let_by=True), case.assertRaises(BadDesign):
            call(value, (("show", 0),))
