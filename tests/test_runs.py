"""Points 7 to 10 and the interface of runs.py."""

import itertools
import unittest

from ownedborder.errors import BadDesign, BadPicks, BadProgram, NotMade
from ownedborder.runs import run, weavings, wrong_picks

from helper import NO_DESIGNS, NO_PICKS, NO_PROGRAMS, WORDS, check_design_and_program

BOX = ("box", 0, 1)
TWO = (BOX, ("box", 1, 2))
LOOKED = (BOX, ("look", 1, 0))
LENT = (BOX, ("lend", 1, 0))
FREE = WORDS
# All words but the one by which an owner that was moved keeps its name.
ONE_NAME = tuple(word for word in WORDS if word != "two names")


def block(*body):
    return ("block", body)


def hands(first, second):
    return ("hands", tuple(first), tuple(second))


class Case(unittest.TestCase):
    def ends(self, shown, *program, design=FREE, picks=(0,)):
        self.assertEqual(run(design, program, picks), ("ends", "", shown), program)

    def wrong(self, why, shown, *program, design=FREE, picks=(0,)):
        self.assertEqual(run(design, program, picks), ("wrong", why, shown), program)


class Arguments(Case):
    def test_wrong_arguments(self):
        check_design_and_program(self, weavings)
        check_design_and_program(self, wrong_picks)
        check_design_and_program(self, lambda design, program: run(design, program, (0,)))

    def test_wrong_picks_given(self):
        for value in NO_PICKS:
            with self.subTest(picks=repr(value)):
                with self.assertRaises(BadPicks):
                    run((), (), value)
                with self.assertRaises(BadPicks):
                    run((), (("show", 0),), value)
                with self.assertRaises(BadDesign):
                    run(NO_DESIGNS[0], (), value)
                with self.assertRaises(BadProgram):
                    run((), NO_PROGRAMS[0][0], value)

    def test_picks_that_are_some(self):
        for value in ((0,), (1,), (0, 1), (1,) * 30, (0,) * 29, (0, 1) * 15):
            self.ends((1,), BOX, ("show", 0), picks=value)

    def test_not_made(self):
        for design, program in (((), (("show", 0),)), ((), (block(),)), (("blocks",), (hands((), ()),))):
            for call in (weavings, wrong_picks, lambda one, other: run(one, other, (1,))):
                with self.assertRaises(NotMade):
                    call(design, program)

    def test_examples(self):
        program = (("box", 0, 1), ("box", 1, 2), ("hands", (("show", 0),), (("show", 1),)))
        found = [
            run(("hands",), program, (1,)), weavings(("hands",), program), wrong_picks(("hands",), program),
            run(("set", "set looked"), (("box", 0, 1), ("look", 1, 0), ("set", 0, 2), ("show", 1)), (0,)),
        ]
        self.assertEqual(found, [
            ("ends", "", (2, 1)), (("ends", "", (1, 2)), ("ends", "", (2, 1))), None, ("wrong", "changed", ()),
        ])
        with self.assertRaises(BadPicks):
            run(("hands",), program, ())


class Deeds(Case):
    def test_box_and_show(self):
        self.ends(())
        self.ends((), BOX)
        self.ends((1, 1), BOX, ("show", 0), ("show", 0))
        self.ends((0, 99), ("box", 40, 0), ("box", 3, 99), ("show", 40), ("show", 3))

    def test_move(self):
        self.ends((1,), BOX, ("move", 1, 0), ("show", 1), design=())
        self.ends((1, 1), BOX, ("move", 1, 0), ("show", 0), ("show", 1), design=("two names",))
        self.ends((5,), BOX, ("move", 1, 0), ("set", 0, 5), ("show", 1), design=("set", "two names"))
        self.ends((5,), BOX, ("move", 1, 0), ("set", 1, 5), ("show", 0), design=("set", "two names"))

    def test_look(self):
        self.ends((1, 1), *LOOKED, ("show", 1), ("show", 0), design=())
        self.ends((1, 1), *LOOKED, ("look", 2, 1), ("end", 1), ("show", 2), ("show", 0), design=())
        self.ends((4,), BOX, ("set", 0, 3), ("set", 0, 4), ("look", 1, 0), ("show", 1), design=("set",))

    def test_a_look_at_a_look_has_its_count(self):
        self.wrong("changed", (), *LOOKED, ("set", 0, 2), ("look", 2, 1), ("show", 2))
        self.ends((2,), *LOOKED, ("set", 0, 2), ("look", 2, 0), ("show", 2))
        self.wrong("changed", (2,), *LOOKED, ("set", 0, 2), ("look", 2, 0), ("show", 2), ("show", 1))

    def test_lend(self):
        self.ends((1,), *LENT, ("show", 1), design=())
        self.ends((3, 4, 4), *LENT, ("set", 1, 3), ("show", 1), ("set", 1, 4), ("show", 1), ("end", 1), ("show", 0),
                  design=("set",))
        self.ends((7,), BOX, ("set", 0, 5), ("lend", 1, 0), ("set", 1, 7), ("show", 1), design=("set",))

    def test_set(self):
        self.ends((1, 8, 0), BOX, ("show", 0), ("set", 0, 8), ("show", 0), ("set", 0, 0), ("show", 0), design=("set",))
        self.ends((1, 3), *TWO, ("set", 1, 3), ("show", 0), ("show", 1), design=("set",))

    def test_set_counts_even_with_the_same_number(self):
        self.wrong("changed", (), *LOOKED, ("set", 0, 1), ("show", 1))

    def test_drop(self):
        self.ends((1,), BOX, ("show", 0), ("drop", 0), design=("drop",))
        self.ends((2,), *TWO, ("drop", 0), ("show", 1), design=("drop",))

    def test_end(self):
        self.ends((1,), *LOOKED, ("end", 1), ("show", 0), design=())
        self.ends((1,), *LENT, ("end", 1), ("show", 0), design=())

    def test_aim(self):
        self.ends((2, 2, 1), *TWO, ("look", 2, 0), ("aim", 2, 1), ("show", 2), ("show", 1), ("show", 0), design=())
        self.ends((2,), *TWO, ("look", 2, 0), ("look", 3, 1), ("aim", 2, 3), ("show", 2), design=())
        self.ends((1,), *LOOKED, ("end", 1), ("aim", 1, 0), ("show", 1), design=())
        self.ends((3,), *LOOKED, ("set", 0, 3), ("aim", 1, 0), ("show", 1))

    def test_aim_at_a_look_has_its_count(self):
        program = TWO + (("look", 2, 0), ("look", 3, 1), ("set", 1, 5), ("aim", 2, 3))
        self.wrong("changed", (), *program, ("show", 2))
        self.wrong("changed", (), *LOOKED, ("set", 0, 3), ("aim", 1, 1), ("show", 1))


class WrongRuns(Case):
    def test_gone(self):
        gone = LOOKED + (("look", 9, 0), ("drop", 0))
        self.wrong("gone", (), *gone, ("show", 1))
        self.wrong("gone", (), *gone, ("look", 2, 1))
        self.wrong("gone", (), *gone, ("box", 2, 2), ("aim", 1, 9))
        self.ends((), *gone, ("end", 1))
        self.ends((2,), *gone, ("box", 2, 2), ("aim", 1, 2), ("show", 1))

    def test_gone_by_two_names(self):
        gone = (BOX, ("move", 1, 0), ("look", 9, 1), ("lend", 8, 1), ("drop", 0))
        for use in (("show", 1), ("set", 1, 2), ("move", 2, 1), ("look", 2, 1), ("lend", 2, 1), ("aim", 9, 1),
                    ("show", 9), ("show", 8), ("set", 8, 2)):
            for behind in ((), (("box", 3, 4), ("show", 3))):
                self.wrong("gone", (1,), BOX, ("show", 0), *gone[1:], use, *behind)
        self.ends((), *gone)

    def test_twice(self):
        self.wrong("twice", (1,), BOX, ("move", 1, 0), ("show", 0), ("drop", 1), ("drop", 0), ("box", 2, 2),
                   ("show", 2))
        self.wrong("twice", (), block(BOX, ("move", 1, 0)))
        self.wrong("twice", (), BOX, block(("move", 1, 0)), ("drop", 0))
        self.wrong("twice", (), BOX, ("move", 1, 0), ("drop", 1), block(), ("drop", 0))

    def test_changed(self):
        self.wrong("changed", (1,), *LOOKED, ("show", 1), ("set", 0, 2), ("show", 1), ("show", 0))
        self.wrong("changed", (), *LENT, ("set", 0, 2), ("show", 1))
        self.wrong("changed", (), *LENT, ("set", 0, 2), ("set", 1, 3))
        self.wrong("changed", (), *LOOKED, ("lend", 2, 0), ("set", 2, 2), ("show", 1))
        self.wrong("changed", (), *LENT, ("lend", 2, 0), ("set", 1, 2), ("set", 2, 2))
        self.ends((2,), *LENT, ("lend", 2, 0), ("set", 1, 2), ("show", 1))

    def test_what_is_not_looked_for(self):
        self.ends((2,), *LOOKED, ("set", 0, 2), ("show", 0))
        self.ends((), *LOOKED, ("set", 0, 2), ("look", 2, 1), ("aim", 1, 2), ("end", 1))
        self.ends((3,), BOX, ("move", 1, 0), ("set", 0, 2), ("set", 1, 3), ("show", 0))

    def test_gone_ahead_of_changed(self):
        self.wrong("gone", (), *LOOKED, ("set", 0, 2), ("drop", 0), ("show", 1))
        self.wrong("gone", (), *LENT, ("set", 0, 2), ("drop", 0), ("set", 1, 3))

    def test_nothing_is_shown_behind_what_goes_wrong(self):
        self.wrong("changed", (1, 5), *LOOKED, ("show", 0), ("set", 0, 5), ("show", 0), ("show", 1), ("show", 0))


class EndsOfBlocks(Case):
    def test_boxes_are_let_go(self):
        self.wrong("gone", (2,), *LOOKED, block(("box", 2, 2), ("aim", 1, 2), ("show", 1)), ("show", 1))
        self.wrong("gone", (), *LOOKED, block(("move", 2, 0)), ("show", 1))
        self.wrong("gone", (1,), BOX, block(("move", 1, 0), ("show", 1)), ("show", 0))

    def test_boxes_of_owners_made_outside_are_kept(self):
        self.ends((1,), BOX, block(), ("show", 0))
        self.ends((1, 1), *LOOKED, block(("look", 2, 0), ("lend", 3, 0)), ("show", 0), ("show", 1))

    def test_references_let_nothing_go(self):
        self.ends((1,), BOX, block(("look", 1, 0), ("look", 2, 1), ("end", 1)), ("show", 0), design=("blocks",))
        self.ends((1,), BOX, block(("lend", 1, 0)), ("show", 0), design=("blocks",))

    def test_empty_owners_let_nothing_go(self):
        self.ends((1,), block(BOX, ("move", 1, 0), ("show", 1)), design=("blocks",))
        self.ends((), block(BOX, ("drop", 0)), design=("blocks", "drop"))
        self.ends((), block(BOX, ("move", 1, 0), ("drop", 1)), design=("blocks", "drop"))
        self.wrong("twice", (), block(BOX, ("move", 1, 0), ("drop", 1)), design=("blocks", "drop", "two names"))

    def test_names_are_made_anew(self):
        self.ends((1, 2), block(BOX, ("show", 0)), block(("box", 0, 2), ("show", 0)), design=("blocks",))
        self.ends((3, 4), block(BOX, ("look", 1, 0)), ("box", 1, 3), ("look", 0, 1), ("show", 0), ("set", 1, 4),
                  ("show", 1))

    def test_a_box_made_anew_is_another_one(self):
        far = LOOKED + (block(("box", 2, 2), ("aim", 1, 2)), block(("box", 2, 3)))
        self.wrong("gone", (), *far, ("show", 1))
        self.ends((4,), *far, ("box", 2, 4), ("aim", 1, 2), ("show", 1))

    def test_all_that_were_made_in_it(self):
        body = (("box", 2, 3), ("aim", 1, 2), ("box", 3, 4), ("move", 4, 3))
        self.wrong("gone", (), *LOOKED, block(*body), ("show", 1), design=ONE_NAME)
        body = (("box", 3, 4), ("move", 4, 3), ("box", 2, 3), ("aim", 1, 2))
        self.wrong("gone", (), *LOOKED, block(*body), ("show", 1), design=ONE_NAME)
        self.ends((1,), *LOOKED, block(*body), ("show", 0), design=ONE_NAME)


class Hands(Case):
    FOUR = tuple(("box", name, name) for name in range(8))

    def shows(self, *names):
        return tuple(("show", name) for name in names)

    def test_who_does_the_next_deed(self):
        program = self.FOUR + (hands(self.shows(0, 1, 2, 3), self.shows(4, 5, 6, 7)),)
        for picks, shown in (
            ((0,), (0, 1, 2, 3, 4, 5, 6, 7)), ((1,), (4, 5, 6, 7, 0, 1, 2, 3)),
            ((0, 1), (0, 4, 1, 5, 2, 6, 3, 7)), ((1, 0), (4, 0, 5, 1, 6, 2, 7, 3)),
            ((0, 0, 1), (0, 1, 4, 2, 3, 5, 6, 7)), ((1, 1, 0, 1), (4, 5, 0, 6, 7, 1, 2, 3)),
            ((0, 1, 1), (0, 4, 5, 1, 6, 7, 2, 3)), ((0,) * 3 + (1,) * 27, (0, 1, 2, 4, 5, 6, 7, 3)),
        ):
            self.ends(shown, *program, picks=picks, design=("hands",))

    def test_picks_are_not_counted_when_one_has_nothing_left(self):
        pair = hands(self.shows(0), self.shows(1, 2))
        program = self.FOUR + (pair, pair, pair)
        self.ends((0, 1, 2, 1, 0, 2, 0, 1, 2), *program, picks=(0, 1, 0, 0), design=("hands",))
        self.ends((1, 2, 0, 0, 1, 2, 1, 0, 2), *program, picks=(1, 1, 0, 1, 0), design=("hands",))
        self.ends((0, 1, 2, 1, 2, 0, 1, 2, 0), *program, picks=(0, 1, 1, 1, 1), design=("hands",))

    def test_picks_are_counted_over_the_whole_run(self):
        program = self.FOUR + tuple(hands(self.shows(2 * k), self.shows(2 * k + 1)) for k in range(4))
        for picks in itertools.product((0, 1), repeat=4):
            shown = ()
            for k, pick in enumerate(picks):
                shown += (2 * k + pick, 2 * k + 1 - pick)
            self.ends(shown, *program, picks=picks, design=("hands",))
        self.ends((1, 0, 2, 3, 4, 5, 7, 6), *program, picks=(1, 0, 0), design=("hands",))

    def test_hands_with_nothing_to_do(self):
        program = self.FOUR + (hands((), ()), hands((), self.shows(3)), hands(self.shows(4), ()))
        self.ends((3, 4, 1, 0), *program, hands(self.shows(0), self.shows(1)), picks=(1, 0), design=("hands",))

    def test_the_end_of_a_block_is_a_deed(self):
        first, second = (block(), block()), self.shows(0, 1, 2)
        program = self.FOUR + (hands(first + self.shows(3), second),)
        design = ("blocks", "hands")
        self.ends((0, 3, 1, 2), *program, picks=(0, 0, 1, 0), design=design)
        self.ends((3, 0, 1, 2), *program, picks=(0, 0, 0, 1), design=design)
        self.ends((0, 1, 3, 2), *program, picks=(0, 1, 1, 0), design=design)
        inside = (block(("box", 9, 9), ("show", 9)),)
        program = self.FOUR + (hands(inside + self.shows(3), second),)
        self.ends((9, 3, 0, 1, 2), *program, picks=(0, 0, 0, 0), design=design)
        self.ends((9, 0, 3, 1, 2), *program, picks=(0, 0, 0, 1, 0), design=design)

    def test_what_the_hands_did_is_there_behind(self):
        program = TWO + (hands((("set", 0, 5),), (("set", 1, 6),)), ("show", 0), ("show", 1))
        for picks in ((0,), (1,)):
            self.ends((5, 6), *program, picks=picks, design=("hands", "set"))
        program = TWO + (("look", 2, 0), hands((("aim", 2, 1),), ()), ("show", 2))
        self.ends((2,), *program, design=("hands",))

    def test_an_empty_name_still_has_its_box(self):
        drops, shows = (("drop", 0), ("show", 1)), (("show", 1), ("show", 0))
        self.wrong("gone", (2, 2), *TWO, hands(drops, shows), picks=(0, 1, 0))
        self.wrong("gone", (2, 2), *TWO, hands(shows, drops), picks=(1, 0, 1))
        self.wrong("twice", (2,), *TWO, hands((("drop", 0),), (("show", 1), ("drop", 0))), picks=(0,))
        moves = (block(("move", 5, 0), ("show", 5), ("show", 5)),)
        self.ends((1, 1, 1), BOX, hands(moves, (("show", 0),)), picks=(0, 0, 1), design=ONE_NAME)
        others = (block(("move", 6, 0), ("show", 6)),)
        self.wrong("race", (1, 1), BOX, hands(moves, others), picks=(0, 0, 1, 1, 0), design=ONE_NAME)
        self.wrong("gone", (1, 1), BOX, hands(moves, (block(), ("look", 8, 0))), picks=(0, 0, 0, 0, 1), design=ONE_NAME)


    def test_boxes_are_unlike_wherever_they_are_made(self):
        def made(*names):
            return (block(*(("box", name, name) for name in names)),)

        for first, second in (((), made(9)), (made(9), ()), (made(8), made(9)), (made(6, 7, 8), made(9)),
                              (made(9), made(6, 7, 8)), ((block(), block()), made(9))):
            program = TWO + (hands(first, second), ("box", 5, 5), hands(second, first), ("box", 4, 4))
            for picks in ((0,), (1,), (0, 1, 1)):
                self.ends((1, 2, 5, 4), *program, *(("show", name) for name in (0, 1, 5, 4)), picks=picks)


class Races(Case):
    def races(self, first, second, *ahead, design=FREE):
        for one, other in ((first, second), (second, first)):
            for picks in ((0,), (1,)):
                self.wrong("race", (), *ahead, hands(one, other), ("box", 39, 3), ("show", 39),
                           picks=picks, design=design)

    def runs(self, first, second, *ahead):
        for one, other in ((first, second), (second, first)):
            for picks in ((0,), (1,)):
                how, _, _ = run(FREE, ahead + (hands(one, other),), picks)
                self.assertEqual(how, "ends", (ahead, one, other))

    def test_set_and_drop_beside_each_touch(self):
        ahead = (BOX, ("look", 1, 0), ("look", 2, 0), ("lend", 3, 0))
        for change in (("set", 0, 2), ("set", 3, 2), ("drop", 0)):
            for touch in (("show", 0), ("show", 1), ("show", 3), ("set", 0, 4), ("drop", 0), ("look", 7, 0),
                          ("look", 7, 1), ("lend", 7, 0), ("aim", 1, 0), ("aim", 1, 2)):
                self.races((change,), (touch,), *ahead)

    def test_what_does_not_touch(self):
        ahead = TWO + (("look", 2, 0), ("look", 3, 1))
        for change in (("set", 0, 2), ("drop", 0)):
            for other in (("show", 1), ("end", 2), ("aim", 2, 1), ("aim", 2, 3), ("look", 7, 1), ("set", 1, 5),
                          ("drop", 1), ("lend", 7, 1)):
                self.runs((change,), (other,), *ahead)
            self.runs((change,), (block(),), *ahead)
            self.runs((change,), (block(("box", 5, 1)),), *ahead)

    def test_what_changes_nothing(self):
        ahead = (BOX, ("look", 1, 0), ("lend", 2, 0))
        touches = (("show", 0), ("show", 1), ("show", 2), ("look", 7, 0), ("lend", 7, 0), ("aim", 1, 0))
        for one, other in itertools.product(touches, touches):
            if one[1] == 7 and other[1] == 7:
                other = other[:1] + (8,) + other[2:]
            self.runs((one,), (other,), *ahead)

    def test_move_touches_the_box(self):
        for change in (("set", 0, 2), ("drop", 0)):
            self.races((change,), (block(("move", 5, 0)),), BOX)
        for picks in ((0,), (0, 1, 1, 0), (1, 0, 0, 1)):
            found = run(FREE, (BOX, hands((block(("move", 5, 0)),), (block(("move", 6, 0)),))), picks)
            self.assertIn(found[1], ("race", "gone", "twice"))

    def test_the_end_of_a_block_touches_what_it_lets_go(self):
        first = (block(("move", 5, 0)),)
        self.wrong("race", (), BOX, hands(first, (("show", 0),)), picks=(0,))
        self.wrong("race", (), BOX, hands((("show", 0),), first), picks=(1,))
        self.wrong("race", (), BOX, hands(first, (block(("move", 6, 0)),)), picks=(0, 1))
        self.wrong("race", (1,), BOX, hands(first, (("show", 0), ("drop", 0))), picks=(1, 0))
        self.ends((1,), BOX, hands(first, (("show", 0),)), picks=(1,))
        empty = (block(("move", 5, 0), ("move", 6, 5), ("drop", 6)),)
        self.wrong("twice", (2,), *TWO, hands(empty, (("show", 1), ("show", 1))), picks=(0, 0, 1, 0, 0))
        self.ends((2, 2), *TWO, hands(empty, (("show", 1), ("show", 1))), picks=(0,), design=ONE_NAME)

    def test_an_end_of_block_does_not_touch_the_boxes_of_empty_owners(self):
        first = (block(("box", 5, 3), ("drop", 5)), block(("move", 6, 0), ("drop", 6)), ("end", 1))
        program = (BOX, ("box", 2, 2), ("look", 1, 2), hands(first, (("show", 2), ("show", 0))))
        self.wrong("gone", (2,), *program, picks=(0, 0, 0, 0, 0, 1, 1, 1), design=ONE_NAME)
        self.wrong("race", (2,), *program, picks=(0, 0, 0, 1, 0, 0), design=ONE_NAME)

    def test_an_end_of_block_touches_each_of_several_boxes(self):
        ahead = TWO + (("box", 2, 3),)
        body = (block(("move", 5, 0), ("move", 6, 1), ("look", 7, 2)),)
        for name in (0, 1):
            self.wrong("race", (), *ahead, hands(body, (("show", name),)), picks=(0,))
        self.ends((3,), *ahead, hands(body, (("show", 2),)), picks=(0,), design=ONE_NAME)

    def test_a_race_is_ahead_of_what_else_is_wrong(self):
        program = LOOKED + (("set", 0, 2), hands((("show", 1),), (("set", 0, 3),)))
        self.wrong("race", (), *program)
        program = (BOX, ("move", 1, 0), ("drop", 0), hands((("drop", 1),), (("show", 1),)))
        self.wrong("race", (), *program)

    def test_no_race_when_one_has_nothing_left(self):
        program = TWO + (hands((("show", 0),), (("show", 1), ("set", 0, 5))), ("show", 0))
        self.ends((1, 2, 5), *program, picks=(0,))
        self.wrong("race", (2,), *program, picks=(1,))


class Weavings(Case):
    def test_without_picks(self):
        self.assertEqual(weavings((), ()), (("ends", "", ()),))
        self.assertEqual(weavings((), (BOX, ("show", 0))), (("ends", "", (1,)),))
        self.assertEqual(weavings(FREE, LOOKED + (("drop", 0), ("show", 1))), (("wrong", "gone", ()),))
        self.assertEqual(weavings(("hands",), (BOX, hands((("show", 0),), ()))), (("ends", "", (1,)),))

    def test_one_hands(self):
        program = TWO + (hands((("show", 0), ("show", 0)), (("show", 1),)),)
        self.assertEqual(weavings(("hands",), program), (
            ("ends", "", (1, 1, 2)), ("ends", "", (1, 2, 1)), ("ends", "", (2, 1, 1)),
        ))
        program = (BOX, hands((("show", 0), ("show", 0)), (("show", 0),)))
        self.assertEqual(weavings(("hands",), program), (("ends", "", (1, 1, 1)),))

    def test_all_ways_of_eight_deeds(self):
        program = Hands.FOUR + (hands(tuple(("show", k) for k in range(4)), tuple(("show", k) for k in range(4, 8))),)
        found = weavings(("hands",), program)
        self.assertEqual(len(found), 70)
        self.assertEqual(found, tuple(sorted(set(found))))
        for how, why, shown in found:
            self.assertEqual((how, why, sorted(shown)), ("ends", "", list(range(8))))
            self.assertEqual([k for k in shown if k < 4], [0, 1, 2, 3])
            self.assertEqual([k for k in shown if k > 3], [4, 5, 6, 7])

    def test_hands_in_a_row(self):
        pair = hands((("show", 0),), (("show", 1),))
        shown = [one + other for one in ((1, 2), (2, 1)) for other in ((1, 2), (2, 1))]
        expected = tuple(("ends", "", one) for one in sorted(shown))
        self.assertEqual(weavings(("hands",), TWO + (pair, pair)), expected)
        self.assertEqual(len(weavings(("hands",), TWO + (pair,) * 10)), 2 ** 10)

    def test_wrong_ones(self):
        program = TWO + (hands((("show", 1), ("drop", 0)), (("show", 0), ("show", 1))),)
        self.assertEqual(weavings(("drop", "hands", "share"), program), (
            ("ends", "", (1, 2, 2)), ("wrong", "race", (2,)),
        ))
        program = (BOX, hands((("drop", 0),), (("show", 0),)))
        self.assertEqual(weavings(("drop", "hands", "share"), program), (("wrong", "race", ()),))

    def test_the_order_of_the_hands_matters_behind_them(self):
        pair = hands((("aim", 2, 0),), (("aim", 2, 1),))
        program = TWO + (("look", 2, 0), pair, hands((("show", 2),), (("show", 2),)))
        self.assertEqual(weavings(FREE, program), (("ends", "", (1, 1)), ("ends", "", (2, 2))))
        program = TWO + (("look", 2, 0), pair, hands((("set", 0, 5),), (("show", 2),)))
        self.assertEqual(weavings(FREE, program), (("ends", "", (2,)), ("wrong", "race", ())))
        self.assertEqual(wrong_picks(FREE, program), (1,))
        program = TWO + (("look", 2, 0), pair, hands((("set", 1, 5),), (("show", 2),)))
        self.assertEqual(wrong_picks(FREE, program), (0,))

    def test_more_picks_than_thirty(self):
        body = tuple(block(*(("show", 0),) * 6) for _ in range(4))
        program = (BOX, hands(body, body))
        self.assertEqual(weavings(("blocks", "hands"), program), (("ends", "", (1,) * 48),))

    def test_boxes_made_side_by_side(self):
        first = tuple(block(*(("box", name, name) for name in range(6))) for _ in range(4))
        second = tuple(block(*(("box", name, name) for name in range(10, 16))) for _ in range(4))
        self.assertEqual(weavings(("blocks", "hands"), (hands(first, second),)), (("ends", "", ()),))
        self.assertIsNone(wrong_picks(("blocks", "hands"), (hands(first, second),)))

    def test_they_are_what_runs_come_to(self):
        program = TWO + (
            hands((("set", 0, 3), ("show", 1)), (("show", 1), ("show", 0))), ("look", 2, 1),
            hands((block(("move", 5, 0)),), (("show", 2), ("show", 0))),
        )
        found = {run(FREE, program, picks) for picks in itertools.product((0, 1), repeat=8)}
        self.assertEqual(weavings(FREE, program), tuple(sorted(found)))


class WrongPicks(Case):
    def test_none(self):
        self.assertIsNone(wrong_picks((), ()))
        self.assertIsNone(wrong_picks(("hands",), TWO + (hands((("show", 0),), (("show", 1),)),)))
        program = TWO + (hands((("show", 0),), (("show", 1), ("show", 0), ("set", 1, 5))),)
        self.assertIsNone(wrong_picks(FREE, program))

    def test_none_needed(self):
        for program in (
            LOOKED + (("drop", 0), ("show", 1)),
            (BOX, hands((("drop", 0),), (("show", 0),))),
            LOOKED + (("drop", 0), hands((("show", 1),), ())),
            LOOKED + (("drop", 0), ("show", 1), hands((("show", 1),), (("show", 1),))),
        ):
            self.assertEqual(wrong_picks(FREE, program), (0,))

    def test_one(self):
        program = TWO + (hands((("show", 0),), (("show", 1), ("set", 0, 5))),)
        self.assertEqual(wrong_picks(FREE, program), (1,))
        program = TWO + (hands((("show", 1), ("set", 0, 5)), (("show", 0),)),)
        self.assertEqual(wrong_picks(FREE, program), (0,))

    def test_the_least_of_the_shortest(self):
        shows = (("show", 1),)
        program = TWO + (hands(shows + (("set", 0, 5),), shows + (("show", 0),)),)
        self.assertEqual(wrong_picks(FREE, program), (0, 1))
        program = TWO + (hands(shows * 3 + (("set", 0, 5),), shows + (("show", 0),)),)
        self.assertEqual(wrong_picks(FREE, program), (0, 0, 0, 1))
        program = TWO + (hands(shows + (("show", 0),), shows * 3 + (("set", 0, 5),)),)
        self.assertEqual(wrong_picks(FREE, program), (0, 1, 1, 1))

    def test_wrong_behind_the_last_pick(self):
        program = LOOKED + (("box", 2, 2), hands((("show", 2), ("set", 0, 5)), (("show", 2),)), ("show", 1))
        self.assertEqual(wrong_picks(FREE, program), (1,))
        program = LOOKED + (("box", 2, 2), hands((("show", 2),), (("show", 2), ("set", 0, 5))), ("show", 1))
        self.assertEqual(wrong_picks(FREE, program), (0,))

    def test_wrong_only_in_a_later_hands(self):
        pair = hands((("show", 1),), (("show", 1), ("show", 1)))
        last = hands((("set", 0, 3),), (("show", 1), ("show", 0)))
        self.assertEqual(wrong_picks(FREE, TWO + (pair, last)), (0, 1))
        self.assertEqual(wrong_picks(FREE, TWO + (pair, pair, last)), (0, 0, 1))

    def test_by_the_order_of_two_deeds(self):
        ahead = (BOX, ("look", 1, 0), ("box", 2, 2))
        program = ahead + (hands((("set", 0, 2), ("show", 2)), (("show", 2), ("show", 1))),)
        self.assertEqual(wrong_picks(FREE, program), (1,))
        self.assertEqual(run(FREE, program, (1, 1)), ("wrong", "race", (2,)))
        self.assertEqual(run(FREE, program, (0, 0)), ("wrong", "changed", (2, 2)))
        program = ahead + (hands((("aim", 1, 2),), (("show", 2), ("show", 2))), ("set", 2, 5), ("show", 1))
        self.assertEqual(wrong_picks(FREE, program), (0,))
        program = ahead + (hands((("aim", 1, 0), ("aim", 1, 2)), (("aim", 1, 2), ("aim", 1, 0))),)
        self.assertEqual(wrong_picks(FREE, program + (("set", 2, 5), ("show", 1))), (1, 1))
        self.assertEqual(wrong_picks(FREE, program + (("set", 0, 5), ("show", 1))), (0, 0))

    def test_more_than_thirty(self):
        shows = tuple(block(*(("show", 1),) * 6) for _ in range(3))
        change = (block(*(("show", 1),) * 5 + (("set", 0, 5),)),)
        read = (block(*(("show", 1),) * 5 + (("show", 0),)),)
        program = TWO + (hands(shows + change, shows + read),)
        found = wrong_picks(FREE, program)
        self.assertEqual(found, (0,) * 26 + (1,) * 26)


if __name__ == "__main__":
    unittest.main()
