"""Point 1 and the interface of errors.py."""

import unittest

from ownedborder import errors
from ownedborder.borders import breaker, fewest_drops, greatest_sound, is_sound, lots_in
from ownedborder.checker import fault, known, lets_by
from ownedborder.compares import lets_by_all, parting, strengths
from ownedborder.designs import is_design
from ownedborder.desks import Desk
from ownedborder.programs import is_program
from ownedborder.runs import run, weavings, wrong_picks
from ownedborder.texts import read_program, write_program

KINDS = (
    "BadProgram", "BadDesign", "BadPicks", "NotMade", "NotText", "InvalidText", "NotNow", "NothingToUndo",
)
BARRED = (("show", 0),)


class Errors(unittest.TestCase):
    def test_direct_subclasses(self):
        self.assertEqual(errors.OwnError.__bases__, (ValueError,))
        for kind in KINDS:
            self.assertEqual(getattr(errors, kind).__bases__, (errors.OwnError,), kind)
            self.assertEqual(getattr(errors, kind).__module__, "ownedborder.errors")

    def test_no_other_errors(self):
        found = [name for name, value in vars(errors).items() if isinstance(value, type)]
        self.assertEqual(sorted(found), sorted(KINDS + ("OwnError",)))

    def test_fields(self):
        self.assertEqual(errors.BadProgram(3).index, 3)
        self.assertIsNone(errors.BadProgram(None).index)
        self.assertEqual(errors.InvalidText(2).line, 2)

    def test_each_can_be_raised_and_caught(self):
        for error in (
            errors.BadProgram(0), errors.BadDesign(), errors.BadPicks(), errors.NotMade(), errors.NotText(),
            errors.InvalidText(1), errors.NotNow(), errors.NothingToUndo(),
        ):
            with self.assertRaises(errors.OwnError):
                raise error


class Order(unittest.TestCase):
    """If several errors apply, the one of the argument that stands first is raised."""

    def test_design_ahead_of_program(self):
        for call in (fault, lets_by, known, weavings, wrong_picks, Desk):
            with self.assertRaises(errors.BadDesign):
                call(("fly",), None)
            with self.assertRaises(errors.BadDesign):
                call(["set"], ((),))

    def test_design_and_program_ahead_of_picks(self):
        with self.assertRaises(errors.BadDesign):
            run(None, None, ())
        with self.assertRaises(errors.BadDesign):
            run(None, (), None)
        with self.assertRaises(errors.BadProgram):
            run((), None, ())
        with self.assertRaises(errors.BadProgram):
            run((), (None,), (2,))

    def test_not_made_behind_all_arguments(self):
        for call in (known, weavings, wrong_picks):
            with self.assertRaises(errors.BadDesign):
                call(("fly",), BARRED)
            with self.assertRaises(errors.BadProgram):
                call((), BARRED + (None,))
            with self.assertRaises(errors.NotMade):
                call((), BARRED)
        with self.assertRaises(errors.BadPicks):
            run((), BARRED, ())
        with self.assertRaises(errors.BadPicks):
            run((), BARRED, (True,))
        with self.assertRaises(errors.BadDesign):
            run(("set", "drop"), BARRED, (0,))
        with self.assertRaises(errors.NotMade):
            run((), BARRED, (0,))
        with self.assertRaises(errors.BadDesign):
            greatest_sound(("far", "blocks"))
        with self.assertRaises(errors.NotMade):
            greatest_sound(("blocks", "far"))

    def test_index_of_the_first_bad_item(self):
        for program, index in (((None, None), 0), ((BARRED[0], 1, 2), 1), ((None,) * 13, None)):
            with self.assertRaises(errors.BadProgram) as caught:
                fault((), program)
            self.assertEqual(caught.exception.index, index)

    def test_true_and_false_are_no_integers(self):
        for program in ((("box", True, 1),), (("box", 0, True),), (("box", False, 1),), (("box", 0, False),)):
            with self.assertRaises(errors.BadProgram):
                fault((), program)
        with self.assertRaises(errors.BadPicks):
            run((), (), (False,))


class Arguments(unittest.TestCase):
    """No function modifies its arguments, lists and dicts inside wrong ones included."""

    def test_wrong_arguments_stay(self):
        design, program, picks = ["set"], [["box", 0, 1]], [0]
        for call in (fault, lets_by, known, weavings, wrong_picks, Desk):
            with self.assertRaises(errors.BadDesign):
                call(design, program)
            with self.assertRaises(errors.BadProgram):
                call((), program)
        with self.assertRaises(errors.BadPicks):
            run((), (), picks)
        for call in (breaker, fewest_drops, greatest_sound, is_sound, lots_in, strengths):
            with self.assertRaises(errors.BadDesign):
                call(design)
        for call in (lets_by_all, parting):
            with self.assertRaises(errors.BadDesign):
                call(design, ())
            with self.assertRaises(errors.BadDesign):
                call((), design)
        with self.assertRaises(errors.BadProgram):
            write_program(program)
        with self.assertRaises(errors.NotText):
            read_program(program)
        with self.assertRaises(errors.NotText):
            Desk((), ()).run(design)
        self.assertEqual((is_design(design), is_program(program)), (False, False))
        self.assertEqual((design, program, picks), (["set"], [["box", 0, 1]], [0]))

    def test_a_desk_as_an_argument_stays(self):
        desk = Desk(("set",), BARRED)
        desk.run("permit drop")
        for call in (strengths, is_sound, write_program, read_program, desk.run):
            with self.assertRaises(errors.OwnError):
                call(desk)
        self.assertEqual((is_design(desk), is_program(desk)), (False, False))
        self.assertEqual(desk.design, ("drop", "set"))
        desk.undo()
        self.assertEqual(desk.design, ("set",))

    def test_calls_do_not_depend_on_earlier_ones(self):
        design = ("blocks", "hands", "set")
        program = (("box", 0, 1), ("hands", (("set", 0, 2),), (("block", (("box", 1, 3), ("show", 1))),)))
        first = (fault(design, program), known(design, program), weavings(design, program))
        for _ in range(3):
            with self.assertRaises(errors.NotMade):
                known((), program)
            again = (fault(design, program), known(design, program), weavings(design, program))
            self.assertEqual(again, first)


if __name__ == "__main__":
    unittest.main()
