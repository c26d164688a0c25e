"""Points 11 and 12 and the interface of borders.py."""

import itertools
import random
import unittest

from ownedborder.borders import breaker, fewest_drops, greatest_sound, is_sound, lots, lots_in
from ownedborder.checker import lets_by
from ownedborder.errors import NotMade
from ownedborder.runs import run, weavings, wrong_picks

from helper import WORDS, check_design_first, grown_program

# The sixteen lots, with the program and the word why of its wrong run.
LOTS = (
    (("blocks", "far"), "gone",
     (("box", 0, 1), ("look", 1, 0), ("block", (("box", 2, 2), ("aim", 1, 2))), ("show", 1))),
    (("blocks", "hands", "share"), "race",
     (("box", 0, 1), ("hands", (("block", (("move", 1, 0),)),), (("show", 0),)))),
    (("blocks", "move looked"), "gone",
     (("box", 0, 1), ("look", 1, 0), ("block", (("move", 2, 0),)), ("show", 1))),
    (("blocks", "two names"), "gone", (("box", 0, 1), ("block", (("move", 1, 0),)), ("show", 0))),
    (("blocks", "use lent"), "gone", (("box", 0, 1), ("lend", 1, 0), ("block", (("move", 2, 0),)), ("show", 1))),
    (("drop", "drop looked"), "gone", (("box", 0, 1), ("look", 1, 0), ("drop", 0), ("show", 1))),
    (("drop", "hands", "share"), "race", (("box", 0, 1), ("hands", (("drop", 0),), (("show", 0),)))),
    (("drop", "move looked"), "gone", (("box", 0, 1), ("look", 1, 0), ("move", 2, 0), ("drop", 2), ("show", 1))),
    (("drop", "two names"), "gone", (("box", 0, 1), ("move", 1, 0), ("drop", 1), ("show", 0))),
    (("drop", "use lent"), "gone", (("box", 0, 1), ("lend", 1, 0), ("drop", 0), ("show", 1))),
    (("hands", "set", "share"), "race", (("box", 0, 1), ("hands", (("set", 0, 2),), (("show", 0),)))),
    (("lend looked", "set"), "changed",
     (("box", 0, 1), ("look", 1, 0), ("lend", 2, 0), ("set", 2, 2), ("show", 1))),
    (("move looked", "set"), "changed",
     (("box", 0, 1), ("look", 1, 0), ("move", 2, 0), ("set", 2, 2), ("show", 1))),
    (("set", "set looked"), "changed", (("box", 0, 1), ("look", 1, 0), ("set", 0, 2), ("show", 1))),
    (("set", "two names"), "changed",
     (("box", 0, 1), ("move", 1, 0), ("look", 2, 0), ("set", 1, 2), ("show", 2))),
    (("set", "use lent"), "changed", (("box", 0, 1), ("lend", 1, 0), ("set", 0, 2), ("show", 1))),
)


def all_designs():
    """All designs, those of fewer words first, each many in ascending order."""
    return [words for many in range(13) for words in itertools.combinations(WORDS, many)]


def lots_held(design):
    """The lots of a design, by the table of this file."""
    return tuple(lot for lot, _, _ in LOTS if set(lot) <= set(design))


class Lots(unittest.TestCase):
    def test_examples(self):
        found = [
            is_sound(("blocks", "drop", "set")), lots_in(("blocks", "far")), breaker(("drop", "drop looked")),
            fewest_drops(("set", "set looked", "two names")), len(greatest_sound(())),
        ]
        self.assertEqual(found, [
            True, (("blocks", "far"),), (("box", 0, 1), ("look", 1, 0), ("drop", 0), ("show", 1)), ("set",), 15,
        ])
        self.assertEqual(lots()[10], ("hands", "set", "share"))
        with self.assertRaises(NotMade):
            greatest_sound(("blocks", "far"))

    def test_sixteen_ascending(self):
        self.assertEqual(len(lots()), 16)
        self.assertEqual(lots(), tuple(lot for lot, _, _ in LOTS))
        self.assertEqual(lots(), tuple(sorted(lots())))

    def test_wrong_arguments(self):
        for call in (lots_in, breaker, is_sound, greatest_sound, fewest_drops):
            check_design_first(self, call)

    def test_lots_in(self):
        self.assertEqual(lots_in(()), ())
        self.assertEqual(lots_in(WORDS), lots())
        for lot, _, _ in LOTS:
            self.assertIn(lot, lots_in(lot))
            for word in lot:
                self.assertNotIn(lot, lots_in(tuple(one for one in WORDS if one != word)))
        self.assertEqual(lots_in(("blocks", "drop", "two names")), (("blocks", "two names"), ("drop", "two names")))
        for design in all_designs():
            self.assertEqual(lots_in(design), lots_held(design))

    def test_is_sound(self):
        self.assertIs(is_sound(()), True)
        self.assertIs(is_sound(WORDS), False)
        for design in all_designs():
            self.assertIs(is_sound(design), lots_held(design) == ())


class Breakers(unittest.TestCase):
    def check_breaks(self, design, why, program):
        self.assertEqual(breaker(design), program)
        self.assertIs(lets_by(design, program), True)
        picks = wrong_picks(design, program)
        found = run(design, program, picks)
        self.assertEqual((found[0], found[1]), ("wrong", why))
        self.assertIn(found, weavings(design, program))

    def test_each_lot_alone(self):
        for lot, why, program in LOTS:
            with self.subTest(lot=lot):
                self.check_breaks(lot, why, program)

    def test_each_word_of_a_lot_is_needed(self):
        for lot, _, program in LOTS:
            for word in lot:
                design = tuple(one for one in lot if one != word)
                self.assertIsNone(breaker(design))
                self.assertFalse(lets_by(design, program) and wrong_picks(design, program))

    def test_sound_designs_have_none(self):
        self.assertIsNone(breaker(()))
        for design in all_designs():
            self.assertEqual(breaker(design) is None, is_sound(design))

    def test_the_least_of_several_lots(self):
        self.assertEqual(breaker(WORDS), LOTS[0][2])
        self.assertEqual(breaker(("blocks", "drop", "move looked", "set")), LOTS[2][2])
        self.assertEqual(breaker(("drop", "drop looked", "set", "set looked")), LOTS[5][2])
        self.assertEqual(breaker(("set", "set looked", "two names", "use lent")), LOTS[13][2])

    def test_every_unsound_design_is_broken(self):
        for design in all_designs():
            held = lots_held(design)
            if held:
                _, why, program = [row for row in LOTS if row[0] == held[0]][0]
                self.check_breaks(design, why, program)


class GreatestSound(unittest.TestCase):
    def check_greatest(self, design):
        found = greatest_sound(design)
        self.assertEqual(found, tuple(sorted(set(found))))
        expected = []
        for one in all_designs():
            if set(design) <= set(one) and not lots_held(one):
                wider = [tuple(sorted(one + (word,))) for word in WORDS if word not in one]
                if all(lots_held(two) for two in wider):
                    expected.append(one)
        self.assertEqual(found, tuple(sorted(expected)))

    def test_for_no_words(self):
        self.assertEqual(len(greatest_sound(())), 15)
        self.check_greatest(())

    def test_for_some_words(self):
        for design in (("set",), ("blocks", "drop", "set"), ("share",), ("blocks", "hands"), ("far", "use lent")):
            self.check_greatest(design)

    def test_those_above_a_design(self):
        for design in (("drop",), ("blocks", "drop"), ("hands", "share"), ("two names",)):
            expected = tuple(one for one in greatest_sound(()) if set(design) <= set(one))
            self.assertEqual(greatest_sound(design), expected)

    def test_a_greatest_one_has_itself_alone(self):
        for design in greatest_sound(()):
            self.assertEqual(greatest_sound(design), (design,))

    def test_one_of_them(self):
        lone = ("drop looked", "far", "hands", "lend looked", "move looked", "set looked", "share", "two names",
                "use lent")
        self.assertIn(lone, greatest_sound(()))
        self.assertEqual(greatest_sound(("blocks", "drop", "hands", "set")), (("blocks", "drop", "hands", "set"),))

    def test_not_made(self):
        for lot, _, _ in LOTS:
            with self.assertRaises(NotMade):
                greatest_sound(lot)
        with self.assertRaises(NotMade):
            greatest_sound(WORDS)


class FewestDrops(unittest.TestCase):
    def test_sound_ones_drop_nothing(self):
        for design in ((), ("set",), ("blocks", "drop", "hands", "set")):
            self.assertEqual(fewest_drops(design), ())

    def test_one_lot(self):
        self.assertEqual(fewest_drops(("blocks", "far")), ("blocks",))
        self.assertEqual(fewest_drops(("drop", "hands", "share")), ("drop",))
        self.assertEqual(fewest_drops(("lend looked", "set")), ("lend looked",))

    def test_several_lots(self):
        self.assertEqual(fewest_drops(("blocks", "drop", "two names")), ("two names",))
        self.assertEqual(fewest_drops(("blocks", "drop", "far", "two names")), ("blocks", "drop"))
        self.assertEqual(fewest_drops(("drop", "drop looked", "set", "set looked")), ("drop", "set"))
        self.assertEqual(fewest_drops(WORDS), ("blocks", "drop", "set"))

    def test_against_all_ways(self):
        for design in all_designs():
            held = lots_held(design)
            ways = (words for many in range(13) for words in itertools.combinations(design, many))
            expected = next(words for words in ways if all(set(words) & set(lot) for lot in held))
            self.assertEqual(fewest_drops(design), expected)


class Soundness(unittest.TestCase):
    """What a greatest sound design lets by does not go wrong, tried with many programs."""

    def test_no_run_goes_wrong(self):
        chance = random.Random(12)
        for design in greatest_sound(()):
            for _ in range(25):
                program = grown_program(chance, design, 8)
                self.assertIsNone(wrong_picks(design, program), (design, program))
                self.assertEqual({way[0] for way in weavings(design, program)}, {"ends"})


if __name__ == "__main__":
    unittest.main()
