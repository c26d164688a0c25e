"""Points 4 to 6 and the interface of checker.py."""

import unittest

from ownedborder.checker import fault, known, lets_by
from ownedborder.errors import NotMade

from helper import WORDS, check_design_and_program

BOX = ("box", 0, 1)
LOOKED = (BOX, ("look", 1, 0))
LENT = (BOX, ("lend", 1, 0))
EMPTY = (BOX, ("move", 1, 0))
TWO = (BOX, ("box", 1, 2))


class Case(unittest.TestCase):
    def stands(self, design, *program):
        """The design, its words in any order, lets the program by."""
        design = tuple(sorted(design))
        self.assertIsNone(fault(design, program), (design, program))
        self.assertIs(lets_by(design, program), True)

    def barred(self, design, place, *program):
        """The first fault of the program is at the place; known is not made."""
        design = tuple(sorted(design))
        self.assertEqual(fault(design, program), place, (design, program))
        self.assertIs(lets_by(design, program), False)
        with self.assertRaises(NotMade):
            known(design, program)

    def last(self, words, program):
        """The last statement stands if the design holds all the words, not without one, nor with all others."""
        self.stands(words, *program)
        self.stands(WORDS, *program)
        for word in words:
            others = [one for one in words if one != word]
            self.barred(others, (len(program) - 1,), *program)
            self.barred([one for one in WORDS if one != word], (len(program) - 1,), *program)

    def ends(self, design, program, names):
        self.assertEqual(known(tuple(sorted(design)), program), names)


class Arguments(Case):
    def test_wrong_arguments(self):
        check_design_and_program(self, fault)
        check_design_and_program(self, lets_by)
        check_design_and_program(self, known)

    def test_examples(self):
        program = (("box", 0, 1), ("look", 1, 0), ("set", 0, 2), ("show", 1))
        found = [
            fault((), program), fault(("set",), program), lets_by(("set", "set looked"), program),
            known((), program[:2]),
        ]
        self.assertEqual(found, [(2,), (2,), True, ((0, "owns"), (1, "looks"))])
        with self.assertRaises(NotMade):
            known((), program)


class Making(Case):
    """What makes a name does so only where the name is not known."""

    def test_known_names(self):
        for maker in (BOX, ("box", 0, 9), ("move", 0, 1), ("look", 0, 1), ("lend", 0, 1)):
            self.barred((), (2,), BOX, ("box", 1, 2), maker)
            self.barred(WORDS, (2,), BOX, ("box", 1, 2), maker)
            self.barred(WORDS, (3,), *EMPTY, ("box", 2, 1), maker[:1] + (0, 2))
            self.barred(WORDS, (3, 0), *TWO, ("show", 1), ("block", (maker,)))
        for word in ("move", "look", "lend"):
            self.barred(WORDS, (2,), BOX, ("box", 2, 1), (word, 2, 2))
            self.barred(WORDS, (0,), (word, 2, 2))
            self.barred(WORDS, (3,), *LOOKED, ("end", 1), (word, 1, 0))

    def test_unknown_names(self):
        for statement in (("move", 1, 0), ("look", 1, 0), ("lend", 1, 0), ("show", 0), ("set", 0, 1),
                          ("drop", 0), ("end", 0), ("aim", 0, 0)):
            self.barred(WORDS, (0,), statement)
            self.barred(WORDS, (1,), ("box", 3, 1), statement, BOX)

    def test_names_of_blocks_are_made_again(self):
        inside = ("block", (BOX, ("look", 1, 0), ("lend", 2, 0)))
        self.barred(("blocks",), (0, 2), inside)
        inside = ("block", (BOX, ("lend", 1, 0)))
        self.stands(("blocks",), inside, inside, BOX, ("look", 1, 0))
        self.ends(("blocks",), (inside, BOX, ("look", 1, 0)), ((0, "owns"), (1, "looks")))


class Rows(Case):
    """The rows of point 5, each with and without each word that it names."""

    def test_box(self):
        self.stands((), BOX)
        self.stands(WORDS, BOX)
        self.ends((), (BOX,), ((0, "owns"),))
        self.ends((), (("box", 40, 99),), ((40, "owns"),))

    def test_move(self):
        self.stands((), BOX, ("move", 1, 0))
        self.ends((), EMPTY, ((0, "empty"), (1, "owns")))
        self.ends(("two names",), EMPTY, ((0, "owns"), (1, "owns")))
        self.last(("move looked",), LOOKED + (("move", 2, 0),))
        self.last(("use lent",), LENT + (("move", 2, 0),))
        self.last(("two names",), EMPTY + (("move", 2, 0),))
        self.ends(("move looked",), LOOKED + (("move", 2, 0),), ((0, "empty"), (1, "looks"), (2, "owns")))

    def test_move_of_what_is_no_owner(self):
        self.barred(WORDS, (2,), *LOOKED, ("move", 2, 1))
        self.barred(WORDS, (2,), *LENT, ("move", 2, 1))

    def test_move_behind_the_end_of_references(self):
        self.stands((), *LOOKED, ("end", 1), ("move", 2, 0))
        self.stands((), *LENT, ("end", 1), ("move", 2, 0))

    def test_look(self):
        self.stands((), *LOOKED)
        self.stands((), *LOOKED, ("look", 2, 0), ("look", 3, 1), ("look", 4, 3))
        self.last(("use lent",), LENT + (("look", 2, 0),))
        self.last(("two names",), EMPTY + (("look", 2, 0),))
        self.ends((), LOOKED + (("look", 2, 1),), ((0, "owns"), (1, "looks"), (2, "looks")))

    def test_look_at_references(self):
        self.barred(WORDS, (2,), *LENT, ("look", 2, 1))
        self.barred(WORDS, (3,), *LOOKED, ("end", 1), ("look", 2, 1))

    def test_look_at_a_look_is_on_the_same_name(self):
        program = LOOKED + (("look", 2, 1), ("end", 1))
        self.barred((), (4,), *program, ("move", 3, 0))
        self.stands((), *program, ("end", 2), ("move", 3, 0))

    def test_look_at_a_look_on_what_may_not_be_used(self):
        self.stands(("move looked",), *LOOKED, ("move", 2, 0), ("look", 3, 1))
        self.stands(("lend looked",), *LOOKED, ("lend", 2, 0), ("look", 3, 1))

    def test_lend(self):
        self.stands((), *LENT)
        self.last(("lend looked",), LOOKED + (("lend", 2, 0),))
        self.last(("use lent",), LENT + (("lend", 2, 0),))
        self.last(("two names",), EMPTY + (("lend", 2, 0),))
        self.barred(WORDS, (2,), *LENT, ("lend", 2, 1))
        self.barred(WORDS, (2,), *LOOKED, ("lend", 2, 1))
        self.stands((), *LOOKED, ("end", 1), ("lend", 2, 0))
        self.ends((), LENT, ((0, "owns"), (1, "lent")))

    def test_show(self):
        self.stands((), BOX, ("show", 0))
        self.stands((), *LOOKED, ("show", 0), ("show", 1))
        self.stands((), *LENT, ("show", 1))
        self.last(("use lent",), LENT + (("show", 0),))
        self.last(("two names",), EMPTY + (("show", 0),))
        self.barred(WORDS, (3,), *LOOKED, ("end", 1), ("show", 1))
        self.barred(WORDS, (3,), *LENT, ("end", 1), ("show", 1))
        self.barred(WORDS, (2,), BOX, ("drop", 0), ("show", 0))

    def test_set(self):
        self.last(("set",), (BOX, ("set", 0, 2)))
        self.last(("set",), LENT + (("set", 1, 2),))
        self.last(("set", "set looked"), LOOKED + (("set", 0, 2),))
        self.last(("set", "use lent"), LENT + (("set", 0, 2),))
        self.last(("set", "two names"), EMPTY + (("set", 0, 2),))
        self.stands(("set",), *LOOKED, ("end", 1), ("set", 0, 2))
        self.stands(("lend looked", "set"), *LOOKED, ("lend", 2, 0), ("set", 2, 2))
        self.ends(("set",), LENT + (("set", 1, 2),), ((0, "owns"), (1, "lent")))

    def test_set_by_looks_and_ended_lends(self):
        self.barred(WORDS, (2,), *LOOKED, ("set", 1, 2))
        self.barred(WORDS, (3,), *LENT, ("end", 1), ("set", 1, 2))

    def test_drop(self):
        self.last(("drop",), (BOX, ("drop", 0)))
        self.last(("drop", "drop looked"), LOOKED + (("drop", 0),))
        self.last(("drop", "use lent"), LENT + (("drop", 0),))
        self.last(("drop", "two names"), EMPTY + (("drop", 0),))
        self.barred(WORDS, (2,), *LOOKED, ("drop", 1))
        self.barred(WORDS, (2,), *LENT, ("drop", 1))
        self.barred(WORDS, (2,), BOX, ("drop", 0), ("drop", 0))
        self.ends(("drop",), (BOX, ("drop", 0)), ((0, "empty"),))
        self.ends(WORDS, (BOX, ("drop", 0)), ((0, "empty"),))

    def test_end(self):
        self.stands((), *LOOKED, ("end", 1))
        self.stands((), *LENT, ("end", 1))
        self.barred(WORDS, (3,), *LOOKED, ("end", 1), ("end", 1))
        self.barred(WORDS, (3,), *LENT, ("end", 1), ("end", 1))
        self.barred(WORDS, (1,), BOX, ("end", 0))
        self.ends((), LOOKED + (("end", 1),), ((0, "owns"), (1, "ended")))
        self.ends((), LENT + (("end", 1),), ((0, "owns"), (1, "ended")))

    def test_what_is_lent_and_looked_at(self):
        both = LOOKED + (("lend", 2, 0),)
        for statement, word in ((("move", 3, 0), "move looked"), (("set", 0, 2), "set looked"),
                                (("drop", 0), "drop looked"), (("lend", 3, 0), "lend looked")):
            design = {"drop", "lend looked", "set", "use lent", word}
            self.stands(design, *both, statement)
            self.barred(design - {"use lent"}, (3,), *both, statement)
            if word != "lend looked":
                self.barred(design - {word}, (3,), *both, statement)

    def test_aim(self):
        program = (BOX, ("box", 1, 2), ("look", 2, 0), ("aim", 2, 1))
        self.stands((), *program)
        self.stands((), *program, ("move", 3, 0))
        self.barred((), (4,), *program, ("move", 3, 1))
        self.ends((), program, ((0, "owns"), (1, "owns"), (2, "looks")))

    def test_aim_of_ended_looks(self):
        self.stands((), *LOOKED, ("end", 1), ("aim", 1, 0))
        self.ends((), LOOKED + (("end", 1), ("aim", 1, 0)), ((0, "owns"), (1, "looks")))
        self.barred((), (4,), *LOOKED, ("end", 1), ("aim", 1, 0), ("move", 2, 0))
        self.barred(WORDS, (3,), *LOOKED, ("end", 1), ("aim", 1, 1))
        self.stands((), *LOOKED, ("aim", 1, 1), ("show", 1))

    def test_aim_of_what_is_no_look(self):
        self.barred(WORDS, (2,), *TWO, ("aim", 0, 1))
        self.barred(WORDS, (3,), *LENT, ("box", 2, 1), ("aim", 1, 2))
        self.barred(WORDS, (4,), *LENT, ("end", 1), ("box", 2, 1), ("aim", 1, 2))

    def test_aim_at_looks(self):
        program = (BOX, ("box", 1, 2), ("look", 2, 0), ("look", 3, 1), ("aim", 2, 3))
        self.stands((), *program, ("end", 3), ("move", 4, 0))
        self.barred((), (6,), *program, ("end", 3), ("move", 4, 1))
        self.barred(WORDS, (5,), *program[:4], ("end", 3), ("aim", 2, 3))

    def test_aim_at_what_may_not_be_used(self):
        looks = TWO + (("look", 2, 0),)
        self.last(("use lent",), looks + (("lend", 3, 1), ("aim", 2, 1)))
        self.last(("two names",), looks + (("move", 3, 1), ("aim", 2, 1)))
        self.barred(WORDS, (4,), *looks, ("lend", 3, 1), ("aim", 2, 3))

    def test_aim_into_a_block(self):
        for inside in ((("aim", 1, 2),), (("look", 3, 2), ("aim", 1, 3))):
            program = LOOKED + (("block", (("box", 2, 2),) + inside),)
            self.stands(("blocks", "far"), *program)
            self.barred(("blocks",), (2, len(inside)), *program)
            self.barred([word for word in WORDS if word != "far"], (2, len(inside)), *program)

    def test_aim_at_what_is_made_behind_a_block(self):
        inner = ("block", (("box", 2, 2), ("look", 3, 2)))
        self.stands(("blocks",), *LOOKED, inner, ("box", 2, 3), ("aim", 1, 2))
        self.stands(("blocks",), *LOOKED, ("block", ()), ("block", ()), ("box", 2, 3), ("aim", 1, 2))
        self.stands(("blocks", "hands"), *LOOKED, ("hands", (inner,), ()), ("box", 2, 3), ("aim", 1, 2))
        self.barred(("blocks",), (3, 1), *LOOKED, inner, ("block", (("box", 2, 3), ("aim", 1, 2))))

    def test_aim_within_a_block_and_out_of_it(self):
        self.stands(("blocks",), BOX, ("block", (("box", 1, 2), ("look", 2, 1), ("aim", 2, 0), ("aim", 2, 1))))
        self.stands(("blocks",), BOX, ("look", 1, 0), ("block", (("look", 2, 0), ("aim", 1, 2), ("aim", 1, 0))))

    def test_aim_within_hands(self):
        inside = ("block", (("box", 3, 2), ("aim", 1, 3)))
        self.barred(("blocks", "hands"), (2, 0, 0, 1), *LOOKED, ("hands", (inside,), ()))
        self.stands(("blocks", "far", "hands"), *LOOKED, ("hands", (inside,), ()))
        hand = (("look", 2, 0), ("block", (("box", 3, 2), ("aim", 2, 3))))
        self.barred(("blocks", "hands"), (1, 1, 1, 1), BOX, ("hands", (), hand))
        self.stands(("blocks", "far", "hands"), BOX, ("hands", (), hand))
        self.stands(("hands",), *LOOKED, ("hands", (("look", 2, 0), ("aim", 1, 2), ("aim", 2, 1)), ()))

    def test_a_look_keeps_the_name_that_it_is_on(self):
        far = LOOKED + (("block", (("box", 2, 2), ("aim", 1, 2))),)
        self.stands(("blocks", "far"), *far, ("move", 3, 0))
        self.stands(("blocks", "far"), *far, ("look", 3, 1), ("show", 1))
        self.barred(("blocks", "far"), (4,), *far, ("box", 2, 9), ("move", 3, 2))
        self.stands(("blocks", "far"), *far, ("end", 1), ("box", 2, 9), ("move", 3, 2))


class Blocks(Case):
    def test_word(self):
        self.last(("blocks",), (("block", ()),))
        self.last(("blocks",), (BOX, ("block", (("show", 0),))))
        self.barred(("blocks",), (0, 0), ("block", (("show", 0),)))
        self.barred((), (0,), ("block", (("show", 0),)))

    def test_names_are_known_in_it_and_no_longer_behind_it(self):
        inside = (("show", 0), ("box", 1, 2), ("look", 2, 1), ("lend", 3, 0), ("show", 2), ("show", 3))
        self.stands(("blocks",), BOX, ("block", inside))
        self.ends(("blocks",), (BOX, ("block", inside)), ((0, "owns"),))
        for name in (1, 2, 3):
            self.barred(WORDS, (2,), BOX, ("block", inside), ("show", name))
        self.stands(("blocks",), BOX, ("block", inside), ("box", 1, 1), ("box", 2, 1), ("box", 3, 1))

    def test_references_made_in_it_are_on_nothing_behind_it(self):
        for word in ("look", "lend"):
            block = ("block", ((word, 1, 0),))
            self.stands(("blocks", "set"), BOX, block, ("set", 0, 2), ("lend", 1, 0))
            self.stands(("blocks",), BOX, block, ("move", 1, 0))

    def test_what_it_does_to_names_around_it_lasts(self):
        program = LOOKED + (("block", (("end", 1), ("move", 2, 0))),)
        self.ends(("blocks",), program, ((0, "empty"), (1, "ended")))
        self.ends(("blocks", "drop"), (BOX, ("block", (("drop", 0),))), ((0, "empty"),))
        aimed = TWO + (("look", 2, 0), ("block", (("aim", 2, 1),)))
        self.stands(("blocks",), *aimed, ("move", 3, 0))
        self.barred(("blocks",), (4,), *aimed, ("move", 3, 1))


class Hands(Case):
    def test_word(self):
        self.last(("hands",), (("hands", (), ()),))
        self.last(("hands",), (BOX, ("hands", (("show", 0),), (("show", 0),))))
        self.barred((), (0,), ("hands", (("show", 0),), ()))

    def test_both_begin_with_what_is_known_ahead(self):
        self.barred(WORDS, (1, 1, 0), BOX, ("hands", (("look", 1, 0),), (("show", 1),)))
        self.stands(("hands",), *LOOKED, ("hands", (("show", 1),), (("show", 1),)))
        self.stands(("drop", "hands", "share"), BOX, ("hands", (("drop", 0),), (("drop", 0), )))
        self.stands(("hands", "share"), *LOOKED, ("hands", (("end", 1),), (("end", 1),)))
        self.stands(("hands", "share"), BOX, ("hands", (("lend", 1, 0),), (("lend", 2, 0),)))
        self.stands(("hands", "set", "share"), BOX, ("hands", (("look", 1, 0),), (("set", 0, 2),)))

    def test_a_body_is_checked_in_order(self):
        self.barred(("drop", "hands"), (1, 0, 1), BOX, ("hands", (("drop", 0), ("drop", 0)), ()))
        self.barred(("drop", "hands"), (1, 1, 1), BOX, ("hands", (), (("drop", 0), ("drop", 0))))

    def test_names_made_in_both_bodies(self):
        for hand in ((("look", 1, 0),), (("block", (("box", 1, 2),)),), (("block", (("lend", 2, 0), ("box", 1, 2))),)):
            for other in ((("look", 1, 0),), (("lend", 1, 0),)):
                self.barred(WORDS, (1, 1, 0), BOX, ("hands", hand, other))
            for other in (("box", 1, 2), ("move", 1, 0), ("look", 1, 0), ("lend", 1, 0)):
                self.barred(WORDS, (1, 1, 0, 0), BOX, ("hands", hand, (("block", (other,)),)))
        for maker in (("box", 2, 2), ("move", 2, 0), ("look", 2, 0), ("lend", 2, 0)):
            for other in (("box", 2, 2), ("look", 2, 1), ("lend", 2, 1), ("move", 2, 1)):
                program = TWO + (("hands", (("block", (maker,)),), (("block", (other,)),)),)
                self.barred(WORDS, (2, 1, 0, 0), *program)
        for maker in ("look", "lend"):
            self.barred(WORDS, (2, 1, 0), *TWO, ("hands", ((maker, 2, 0),), (("look", 2, 1),)))
        self.stands(("hands",), BOX, ("hands", (("look", 1, 0),), (("look", 2, 0),)))

    def test_a_name_made_again_in_one_body(self):
        block = ("block", (("box", 1, 2), ("show", 1)))
        self.stands(("blocks", "hands"), ("hands", (block, block), ()))
        self.stands(("blocks", "hands"), ("hands", (), (block, block)))
        self.barred(("blocks", "hands"), (0, 1, 0, 0), ("hands", (block,), (block,)))
        self.stands(("blocks", "hands"), ("hands", (block,), ()), ("hands", (), (block,)))
        self.barred(("hands",), (1, 0, 1), BOX, ("hands", (("look", 1, 0), ("look", 1, 0)), ()))

    def test_names_are_known_no_longer_behind(self):
        hands = ("hands", (("look", 1, 0), ("block", (("box", 2, 1),))), (("look", 3, 0),))
        self.ends(("blocks", "hands"), (BOX, hands), ((0, "owns"),))
        for name in (1, 2, 3):
            self.barred(WORDS, (2,), BOX, hands, ("show", name))
        self.stands(("blocks", "hands"), BOX, hands, ("box", 1, 1), ("box", 2, 1), ("box", 3, 1))
        self.stands(("blocks", "hands"), BOX, hands, ("move", 5, 0))
        lends = ("hands", (("lend", 1, 0),), ())
        self.stands(("hands",), BOX, lends, ("move", 5, 0))

    def odds(self, first, second, *ahead):
        """Both bodies may stand, but not beside each other without "share"."""
        for one, other in ((first, second), (second, first)):
            program = (BOX,) + ahead + (("hands", one, other),)
            self.stands(WORDS, *program)
            self.barred([word for word in WORDS if word != "share"], (len(ahead) + 1,), *program)

    def beside(self, first, second, *ahead):
        """Both bodies may stand beside each other without "share"."""
        for one, other in ((first, second), (second, first)):
            program = (BOX,) + ahead + (("hands", one, other),)
            self.stands([word for word in WORDS if word != "share"], *program)

    def test_what_works_on_a_name(self):
        for works in (("set", 0, 2), ("drop", 0), ("lend", 5, 0)):
            self.odds((works,), (("show", 0),))
            self.odds((works,), (("look", 6, 0),))
            self.odds((("look", 4, 0), works), (("look", 6, 0),))
            self.beside((works,), ())
            self.beside((works,), (("show", 1),), ("box", 1, 2))
        self.odds((("block", (("move", 5, 0),)),), (("show", 0),))
        self.odds((("block", (("set", 0, 3),)),), (("block", (("show", 0),)),))
        self.odds((("block", (("box", 5, 3), ("drop", 0))),), (("block", (("look", 6, 0),)),))
        for works in (("end", 1), ("aim", 1, 0)):
            self.odds((works,), (("show", 1),), ("look", 1, 0))
            self.odds((works,), (("look", 6, 1),), ("look", 1, 0))
            self.odds((works,), (("aim", 2, 1),), ("look", 1, 0), ("look", 2, 0))
        self.odds((("end", 1),), (("end", 1),), ("look", 1, 0))
        self.odds((("set", 1, 2),), (("show", 1),), ("lend", 1, 0))
        self.odds((("end", 1),), (("show", 1),), ("lend", 1, 0))
        self.odds((("set", 1, 2),), (("set", 1, 3),), ("lend", 1, 0))

    def test_both_bodies_are_looked_through_for_what_works(self):
        for works in (("set", 0, 2), ("drop", 0), ("lend", 5, 0)):
            for first, second in (((works,), (("show", 0),)), ((("show", 0),), (works,))):
                self.barred(("drop", "hands", "set"), (1,), BOX, ("hands", first, second))

    def test_what_only_touches_a_name(self):
        for first in (("show", 0), ("look", 5, 0), ("aim", 1, 0)):
            for second in (("show", 0), ("look", 6, 0), ("aim", 2, 0)):
                self.beside((first,), (second,), ("look", 1, 0), ("look", 2, 0))
        self.beside((("aim", 1, 3),), (("aim", 2, 3), ("show", 3)), ("look", 1, 0), ("look", 2, 0), ("look", 3, 0))
        self.beside((("show", 1),), (("show", 1),), ("lend", 1, 0))
        self.odds((("set", 0, 2),), (("aim", 1, 0),), ("look", 1, 0))

    def test_names_made_within_may_be_worked_on(self):
        self.beside((("look", 5, 0), ("end", 5)), (("look", 6, 0), ("end", 6)))
        self.beside((("block", (("box", 5, 1), ("set", 5, 2), ("drop", 5))),), (("show", 0),))

    def test_owners_behind(self):
        drops, moves = (("drop", 0),), (("block", (("move", 5, 0),)),)
        shows = (("show", 0),)
        for one in (drops, moves):
            for first, second in ((one, ()), ((), one), (one, shows), (shows, one), (one, drops), (drops, one)):
                program = (BOX, ("hands", first, second))
                self.ends(("blocks", "drop", "hands", "share"), program, ((0, "empty"),))
        self.ends(("hands", "share"), (BOX, ("hands", shows, shows)), ((0, "owns"),))
        program = TWO + (("hands", (("drop", 0),), (("drop", 1),)),)
        self.ends(("drop", "hands"), program, ((0, "empty"), (1, "empty")))
        self.ends(("blocks", "hands", "two names"), (BOX, ("hands", moves, ())), ((0, "owns"),))

    def test_references_behind(self):
        ends, aims, shows = (("end", 1),), (("end", 1), ("aim", 1, 0)), (("show", 1),)
        for first, second, how in (
            (ends, (), "ended"), ((), ends, "ended"), (ends, shows, "ended"), (shows, ends, "ended"),
            (ends, aims, "looks"), (aims, ends, "ended"), (ends, ends, "ended"), (aims, aims, "looks"),
            (aims, shows, "looks"), (shows, shows, "looks"), ((("block", ends),), aims, "looks"),
            (ends, (("block", aims),), "looks"), (aims, (("block", ends),), "ended"),
        ):
            program = LOOKED + (("hands", first, second),)
            self.ends(("blocks", "hands", "share"), program, ((0, "owns"), (1, how)))
        sets = (("set", 1, 2),)
        for first, second, how in ((ends, sets, "lent"), (sets, ends, "ended"), (ends, shows, "ended"),
                                   (sets, (), "lent"), ((), sets, "lent")):
            program = LENT + (("hands", first, second),)
            self.ends(("hands", "set", "share"), program, ((0, "owns"), (1, how)))

    def test_looks_behind_are_on_the_name_of_the_body_that_counts(self):
        ahead = TWO + (("box", 2, 3), ("look", 3, 0))
        for first, second, on in (
            ((("aim", 3, 1),), (("aim", 3, 2),), 2), ((("aim", 3, 2),), (("aim", 3, 1),), 1),
            ((("aim", 3, 1),), (("show", 3),), 1), ((("show", 3),), (("aim", 3, 2),), 2),
            ((("aim", 3, 1),), (("look", 9, 3),), 1), ((), (), 0),
        ):
            program = ahead + (("hands", first, second),)
            for name in (0, 1, 2):
                if name == on:
                    self.barred(("hands", "share"), (5,), *program, ("move", 4, name))
                else:
                    self.stands(("hands", "share"), *program, ("move", 4, name))

    def test_hands_in_a_row(self):
        program = TWO + (("hands", (("drop", 0),), (("show", 1),)), ("hands", (("show", 1),), (("show", 0),)))
        self.barred(("drop", "hands"), (3, 1, 0), *program)
        self.stands(("drop", "hands"), *program[:3], ("hands", (("drop", 1),), ()))


class Places(Case):
    def test_depths(self):
        bad = ("show", 9)
        self.barred(WORDS, (0,), bad, bad)
        self.barred(WORDS, (2,), BOX, ("show", 0), bad)
        self.barred(WORDS, (1, 2), BOX, ("block", (("show", 0), ("show", 0), bad)), bad)
        self.barred(WORDS, (1, 0, 3), BOX, ("hands", (("show", 0),) * 3 + (bad,), (bad,)))
        self.barred(WORDS, (1, 1, 0), BOX, ("hands", (("show", 0),) * 3, (bad,)))
        block = ("block", (("show", 0), ("show", 0), bad))
        self.barred(WORDS, (3, 0, 1, 2), BOX, ("box", 1, 1), ("box", 2, 1), ("hands", (("show", 0), block), ()))
        self.barred(WORDS, (1, 1, 3, 2), BOX, ("hands", (), (("show", 0),) * 3 + (block,)))

    def test_blocks_and_hands_as_such(self):
        hands = ("hands", (("block", (("show", 9),)),), ())
        self.barred((), (1,), BOX, hands)
        self.barred(("blocks",), (1,), BOX, hands)
        self.barred(("hands",), (1, 0, 0), BOX, hands)
        self.barred(("hands",), (1, 1, 1), BOX, ("hands", (), (("show", 0), ("block", ()))))
        self.barred(("blocks", "hands"), (1, 0, 0, 0), BOX, hands)

    def test_first_body_then_second_body_then_both(self):
        bad = ("show", 9)
        drops = ("drop", 0)
        self.barred(("drop", "hands"), (1, 0, 1), BOX, ("hands", (drops, bad), (drops, bad)))
        self.barred(("drop", "hands"), (1, 1, 1), BOX, ("hands", (drops,), (drops, bad)))
        self.barred(("drop", "hands"), (1,), BOX, ("hands", (drops,), (drops,)), bad)
        self.barred(("drop", "hands", "share"), (2,), BOX, ("hands", (drops,), (drops,)), bad)

    def test_no_fault(self):
        self.assertIsNone(fault((), ()))
        self.assertEqual(known((), ()), ())


class Known(Case):
    def test_each_word(self):
        program = (
            ("box", 9, 1), ("move", 8, 9), ("look", 7, 8), ("box", 1, 1), ("lend", 2, 1), ("look", 3, 8), ("end", 3),
        )
        names = ((1, "owns"), (2, "lent"), (3, "ended"), (7, "looks"), (8, "owns"), (9, "empty"))
        self.ends((), program, names)

    def test_ascending_by_name(self):
        program = tuple(("box", name, 1) for name in (40, 3, 20, 11, 0, 2))
        self.ends((), program, tuple((name, "owns") for name in (0, 2, 3, 11, 20, 40)))

    def test_not_made(self):
        for design, program in (
            ((), (("show", 0),)), ((), (("block", ()),)), (("blocks",), (("hands", (), ()),)),
            (("drop", "hands"), (BOX, ("hands", (("drop", 0),), (("show", 0),)))),
        ):
            with self.assertRaises(NotMade):
                known(design, program)


if __name__ == "__main__":
    unittest.main()
