"""Point 15 and the interface of desks.py."""

import random
import unittest

from ownedborder.borders import is_sound
from ownedborder.checker import fault, lets_by
from ownedborder.desks import Desk
from ownedborder.errors import BadDesign, BadProgram, InvalidText, NothingToUndo, NotNow, NotText
from ownedborder.runs import weavings

from helper import NO_DESIGNS, NO_PROGRAMS, NO_STRINGS, WORDS, check_design_and_program, grown_program

BOX = ("box", 0, 1)
LOOKED = (BOX, ("look", 1, 0))
CHANGED = LOOKED + (("set", 0, 2), ("show", 1))
SHOW, BAD = ("show", 0), ("show", 9)
# Lines that a desk does not know.
NO_LINES = (
    "", " ", "fly", "Fault", "FAULT", "faults", "fault ", " fault", "fault\n", "\nfault", "fault\nsound", "fault 0",
    "fault set", "sound ", " sound", "sound set", "ends ", " ends", "end", "ends 0", "wrong ", " wrong", "wrong 1",
    "permit", "permit ", "permits set", "Permit set", "permit  set", " permit set", "permit set ", "permit set\n",
    "permit\nset", "permit\tset", "permit fly", "permit Set", "permit set  looked", "permit looked", "permit sets",
    "permit set drop", "permit blocks far", "permit set,drop", "permit (set)", "permit set\nforbid set",
    "permit ('set',)", "permit None", "permit permit", "permit fault", "permit 0", "permitset", "set", "set looked",
    "forbid", "forbid ", "forbids set", "Forbid set", "forbid  set", " forbid set", "forbid set ", "forbid set\n",
    "forbid\nset", "forbid fly", "forbid Set", "forbid set  looked", "forbid looked", "forbid set drop",
    "forbid sound", "undo", "undo()", "design", "run", "run fault", "none", "yes", "0", "show 0",
)


class Case(unittest.TestCase):
    def answers(self, design, program, line, answer):
        """A line that changes nothing is answered so."""
        desk = Desk(tuple(sorted(design)), program)
        for _ in range(2):
            self.assertEqual(desk.run(line), answer, (design, program, line))
            self.assertIs(type(desk.run(line)), str)
        self.assertEqual(desk.design, tuple(sorted(design)))
        with self.assertRaises(NothingToUndo):
            desk.undo()

    def fails(self, error, desk, line):
        """The line raises the error; the design is as before."""
        before = desk.design
        with self.assertRaises(error, msg=line) as caught:
            desk.run(line)
        self.assertIs(type(caught.exception), error)
        if error is InvalidText:
            self.assertEqual(caught.exception.line, 1)
        self.assertEqual(desk.design, before)


class Making(Case):
    def test_examples(self):
        desk = Desk(("set",), (("box", 0, 1), ("look", 1, 0), ("set", 0, 2), ("show", 1)))
        found = [
            desk.run("fault"), desk.run("permit set looked"), desk.run("ends"), desk.run("wrong"), desk.run("sound"),
            desk.undo(), desk.design,
        ]
        self.assertEqual(found, ["2", None, "1", "changed", "no", None, ("set",)])
        with self.assertRaises(NotNow):
            desk.run("forbid drop")

    def test_wrong_arguments(self):
        check_design_and_program(self, Desk)

    def test_design_ahead_of_program(self):
        for design in NO_DESIGNS:
            for program, _ in NO_PROGRAMS:
                with self.assertRaises(BadDesign):
                    Desk(design, program)
        with self.assertRaises(BadProgram):
            Desk(WORDS, None)

    def test_programs_that_are_not_let_by(self):
        for program in ((BAD,), (("block", ()),), CHANGED):
            self.assertEqual(Desk((), program).design, ())

    def test_methods_are_its_own(self):
        for name in ("run", "undo", "design"):
            self.assertIn(name, vars(Desk))
        self.assertIsInstance(vars(Desk)["design"], property)
        self.assertEqual(Desk.__module__, "ownedborder.desks")

    def test_design(self):
        for design in ((), ("set",), ("far", "set looked"), WORDS):
            self.assertEqual(Desk(design, ()).design, design)

    def test_desks_do_not_know_of_each_other(self):
        one, other = Desk(("set",), ()), Desk(("set",), ())
        one.run("permit drop")
        other.run("forbid set")
        self.assertEqual((one.design, other.design), (("drop", "set"), ()))
        one.undo()
        self.assertEqual((one.design, other.design), (("set",), ()))
        with self.assertRaises(NothingToUndo):
            one.undo()
        other.undo()
        self.assertEqual(other.design, ("set",))


class Answers(Case):
    def test_fault(self):
        block = ("block", (SHOW, SHOW, BAD))
        for program, answer in (
            ((), "none"), ((BOX, SHOW), "none"), ((BAD,), "0"), ((BOX, BAD), "1"),
            ((BOX,) + (SHOW,) * 10 + (BAD,), "11"),
            ((BOX, block), "1.2"), ((BOX, SHOW, ("block", (BAD,))), "2.0"),
            ((BOX, ("hands", (SHOW, BAD), ())), "1.0.1"), ((BOX, ("hands", (), (SHOW, SHOW, SHOW, BAD))), "1.1.3"),
            ((BOX, SHOW, SHOW, ("hands", (SHOW, block), ())), "3.0.1.2"),
            ((BOX,) + (SHOW,) * 9 + (("hands", (), (block,)),), "10.1.0.2"),
        ):
            self.answers(("blocks", "hands"), program, "fault", answer)
        self.answers((), (BOX, block), "fault", "1")
        self.answers(("drop", "hands"), (BOX, ("hands", (("drop", 0),), (SHOW,))), "fault", "1")

    def test_fault_follows_the_design(self):
        desk = Desk((), (BOX, ("drop", 0), ("block", ())))
        self.assertEqual(desk.run("fault"), "1")
        desk.run("permit drop")
        self.assertEqual(desk.run("fault"), "2")
        desk.run("permit blocks")
        self.assertEqual(desk.run("fault"), "none")
        desk.run("forbid drop")
        self.assertEqual(desk.run("fault"), "1")
        desk.undo()
        self.assertEqual(desk.run("fault"), "none")

    def test_sound(self):
        for program in ((), (BAD,), CHANGED):
            self.answers((), program, "sound", "yes")
            self.answers(("blocks", "drop", "hands", "set"), program, "sound", "yes")
            self.answers(("far", "set looked", "share"), program, "sound", "yes")
            self.answers(("set", "set looked"), program, "sound", "no")
            self.answers(("drop", "hands", "share"), program, "sound", "no")
            self.answers(WORDS, program, "sound", "no")

    def test_ends(self):
        two = (BOX, ("box", 1, 2))
        pair = ("hands", (("show", 0),), (("show", 1),))
        for program, answer in (
            ((), "1"), ((BOX, SHOW), "1"), (two + (pair,), "2"), (two + (pair, pair), "4"),
            (two + (pair,) * 5, "32"), (two + (("hands", (SHOW,), (SHOW,)),), "1"),
        ):
            self.answers(("hands",), program, "ends", answer)
        self.answers(("set", "set looked"), CHANGED, "ends", "1")
        program = two + (("hands", (("show", 1), ("drop", 0)), (("show", 0), ("show", 1))),)
        self.answers(("drop", "hands", "share"), program, "ends", "2")

    def test_wrong(self):
        self.answers((), (BOX, SHOW), "wrong", "")
        self.answers((), (), "wrong", "")
        self.answers(("set", "set looked"), CHANGED, "wrong", "changed")
        self.answers(("drop", "drop looked"), LOOKED + (("drop", 0), ("show", 1)), "wrong", "gone")
        self.answers(("drop", "two names"), (BOX, ("move", 1, 0), ("drop", 0), ("drop", 1)), "wrong", "twice")
        self.answers(("drop", "hands", "share"), (BOX, ("hands", (("drop", 0),), (SHOW,))), "wrong", "race")

    def test_wrong_in_some_weavings(self):
        program = (BOX, ("box", 1, 2), ("hands", (("show", 1), ("drop", 0)), (("show", 0), ("show", 1))))
        self.answers(("drop", "hands", "share"), program, "wrong", "race")

    def test_several_words(self):
        program = (
            BOX, ("box", 1, 2), ("look", 2, 0),
            ("hands", (SHOW, ("set", 0, 5)), (("show", 1), ("show", 2))),
        )
        self.answers(("hands", "set", "set looked", "share"), program, "wrong", "changed race")
        drops = (("drop", 0),)
        for last, words in ((("drop", 0), "race twice"), (SHOW, "gone race")):
            program = (BOX, ("box", 1, 2), ("hands", drops, (("show", 1), last)))
            self.answers(WORDS, program, "wrong", words)
        program = (
            BOX, ("look", 2, 0), ("box", 1, 2), ("hands", (("aim", 2, 1), ("show", 1)), (("aim", 2, 0), ("show", 1))),
            ("set", 0, 7), ("hands", (("show", 2), ("drop", 1)), (("show", 1),)),
        )
        self.answers(WORDS, program, "wrong", "changed race")

    def test_each_word_once_in_order(self):
        program = (
            BOX, ("box", 1, 2), ("box", 3, 3), ("look", 2, 0),
            ("hands", (("aim", 2, 1), ("show", 3)), (("aim", 2, 0), ("show", 3))), ("set", 0, 7),
            ("hands", (("show", 3), ("show", 2)), (("show", 3), ("show", 2))),
            ("hands", (("drop", 1),), (("show", 3), ("drop", 1))),
        )
        self.answers(WORDS, program, "wrong", "changed race twice")
        words = [why for how, why, _ in weavings(WORDS, program) if how == "wrong"]
        self.assertGreater(len(words), 3)

    def test_all_four_words(self):
        program = (
            BOX, ("box", 1, 2), ("box", 3, 3), ("look", 2, 0), ("look", 4, 3),
            ("hands", (("aim", 2, 1), ("aim", 4, 1), ("show", 3)), (("aim", 2, 0), ("aim", 4, 3), ("show", 3))),
            ("set", 0, 7), ("show", 2), ("hands", (("drop", 1),), (("show", 3), ("show", 4))),
            ("move", 6, 0), ("drop", 6), ("drop", 0),
        )
        self.answers(WORDS, program, "wrong", "changed gone race twice")

    def test_not_let_by(self):
        for design, program in (
            ((), (BAD,)), ((), (("block", ()),)), (("set",), CHANGED), (("blocks",), (("hands", (), ()),)),
            (("drop", "hands"), (BOX, ("hands", (("drop", 0),), (SHOW,)))),
        ):
            desk = Desk(design, program)
            for line in ("ends", "wrong"):
                self.fails(NotNow, desk, line)
            with self.assertRaises(NothingToUndo):
                desk.undo()

    def test_answers_are_those_of_the_functions(self):
        chance = random.Random(18)
        for _ in range(60):
            design = tuple(word for word in WORDS if chance.randrange(2))
            program = grown_program(chance, WORDS, 7, 20)
            self.answers(design, program, "sound", "yes" if is_sound(design) else "no")
            place = fault(design, program)
            expected = "none" if place is None else ".".join(str(number) for number in place)
            self.answers(design, program, "fault", expected)
            if lets_by(design, program):
                found = weavings(design, program)
                self.answers(design, program, "ends", str(len(found)))
                words = sorted({why for how, why, _ in found} - {""})
                self.answers(design, program, "wrong", " ".join(words))
            else:
                self.fails(NotNow, Desk(design, program), "ends")
                self.fails(NotNow, Desk(design, program), "wrong")


class Changes(Case):
    def test_each_word(self):
        for word in WORDS:
            rest = tuple(one for one in WORDS if one != word)
            for without, held in (((), (word,)), (rest, WORDS)):
                desk = Desk(without, ())
                self.assertIsNone(desk.run(f"permit {word}"))
                self.assertEqual(desk.design, held)
                self.fails(NotNow, desk, f"permit {word}")
                self.assertIsNone(desk.run(f"forbid {word}"))
                self.assertEqual(desk.design, without)
                self.fails(NotNow, desk, f"forbid {word}")

    def test_designs_stay_ascending(self):
        chance = random.Random(19)
        for _ in range(20):
            words = chance.sample(WORDS, len(WORDS))
            desk = Desk((), ())
            for many, word in enumerate(words):
                desk.run(f"permit {word}")
                self.assertEqual(desk.design, tuple(sorted(words[:many + 1])))
            for many, word in enumerate(words):
                desk.run(f"forbid {word}")
                self.assertEqual(desk.design, tuple(sorted(words[many + 1:])))

    def test_a_design_that_was_given_out_stays(self):
        desk = Desk(("set",), ())
        before = desk.design
        desk.run("permit drop")
        self.assertEqual(before, ("set",))

    def test_the_program_counts_for_nothing(self):
        for program in ((BAD,), CHANGED, (("hands", (), ()),)):
            desk = Desk((), program)
            self.assertIsNone(desk.run("permit set"))
            self.assertIsNone(desk.run("forbid set"))
            self.assertEqual(desk.design, ())

    def test_answers_follow(self):
        desk = Desk((), CHANGED)
        self.fails(NotNow, desk, "ends")
        desk.run("permit set looked")
        self.assertEqual(desk.run("sound"), "yes")
        desk.run("permit set")
        self.assertEqual([desk.run(line) for line in ("fault", "sound", "ends", "wrong")],
                         ["none", "no", "1", "changed"])
        desk.undo()
        self.assertEqual([desk.run(line) for line in ("fault", "sound")], ["2", "yes"])
        self.fails(NotNow, desk, "wrong")


class WrongLines(Case):
    def test_no_strings(self):
        desk = Desk(("set",), CHANGED)
        for value in NO_STRINGS + (b"fault", ["permit", "drop"], ("permit", "drop"), desk):
            with self.subTest(value=repr(value)):
                self.fails(NotText, desk, value)

    def test_other_lines(self):
        for design, program in (((), ()), (("set",), CHANGED), (WORDS, CHANGED)):
            desk = Desk(design, program)
            for line in NO_LINES:
                with self.subTest(line=line):
                    self.fails(InvalidText, desk, line)
            with self.assertRaises(NothingToUndo):
                desk.undo()


class Undo(Case):
    def test_several_changes(self):
        desk = Desk(("set",), CHANGED)
        designs = [desk.design]
        for line in ("permit drop", "permit blocks", "forbid set", "permit set", "forbid drop", "permit use lent"):
            desk.run(line)
            designs.append(desk.design)
        self.assertEqual(len(set(designs)), 6)
        for design in reversed(designs[1:]):
            self.assertEqual(desk.design, design)
            self.assertIsNone(desk.undo())
        with self.assertRaises(NothingToUndo):
            desk.undo()
        self.assertEqual(desk.design, ("set",))

    def test_at_the_beginning(self):
        desk = Desk((), ())
        for _ in range(2):
            with self.assertRaises(NothingToUndo):
                desk.undo()
        self.assertEqual(desk.design, ())
        desk.run("permit set")
        self.assertIsNone(desk.undo())
        with self.assertRaises(NothingToUndo):
            desk.undo()

    def test_it_takes_no_undo_back(self):
        desk = Desk((), ())
        desk.run("permit set")
        desk.run("permit drop")
        desk.undo()
        self.assertEqual(desk.design, ("set",))
        desk.undo()
        self.assertEqual(desk.design, ())

    def test_changes_behind_an_undo(self):
        desk = Desk((), ())
        for line in ("permit set", "permit drop"):
            desk.run(line)
        desk.undo()
        desk.run("permit far")
        self.assertEqual(desk.design, ("far", "set"))
        desk.undo()
        self.assertEqual(desk.design, ("set",))
        desk.undo()
        self.assertEqual(desk.design, ())

    def test_lines_that_only_answer_are_not_taken_back(self):
        desk = Desk(("set looked",), CHANGED)
        desk.run("permit set")
        for line in ("fault", "sound", "ends", "wrong"):
            desk.run(line)
        desk.undo()
        self.assertEqual(desk.design, ("set looked",))
        with self.assertRaises(NothingToUndo):
            desk.undo()

    def test_errors_are_not_taken_back(self):
        desk = Desk((), (BAD,))
        desk.run("permit set")
        desk.run("permit drop")
        for error, line in (
            (NotNow, "ends"), (NotNow, "wrong"), (NotNow, "permit set"), (NotNow, "forbid far"), (NotText, None),
            (InvalidText, "fly"), (InvalidText, "permit fly"), (InvalidText, "forbid set "),
        ):
            self.fails(error, desk, line)
        self.assertEqual(desk.design, ("drop", "set"))
        desk.undo()
        self.assertEqual(desk.design, ("set",))
        desk.undo()
        self.assertEqual(desk.design, ())
        with self.assertRaises(NothingToUndo):
            desk.undo()

    def test_long_ways(self):
        chance = random.Random(20)
        desk = Desk(("far", "set"), ())
        earlier = []
        for _ in range(600):
            if chance.randrange(5) < 2:
                if earlier:
                    self.assertIsNone(desk.undo())
                    self.assertEqual(desk.design, earlier.pop())
                else:
                    with self.assertRaises(NothingToUndo):
                        desk.undo()
                continue
            word, before = chance.choice(WORDS), desk.design
            line = chance.choice(("permit", "forbid")) + " " + word
            if (word in before) == line.startswith("permit"):
                self.fails(NotNow, desk, line)
            else:
                self.assertIsNone(desk.run(line))
                self.assertEqual(set(desk.design) ^ set(before), {word})
                earlier.append(before)


if __name__ == "__main__":
    unittest.main()
