"""Point 13 and the interface of compares.py."""

import itertools
import random
import unittest

from ownedborder.checker import lets_by
from ownedborder.compares import lets_by_all, parting, strengths
from ownedborder.errors import BadDesign

from helper import NO_DESIGNS, WORDS, check_design_first, grown_program

# The words that are strengths only beside another one, with that other one.
BESIDE = {"set looked": "set", "drop looked": "drop", "far": "blocks", "share": "hands"}

PARTINGS = {
    "blocks": (("block", ()),),
    "drop": (("box", 0, 1), ("drop", 0)),
    "drop looked": (("box", 0, 1), ("look", 1, 0), ("drop", 0), ("show", 1)),
    "far": (("box", 0, 1), ("look", 1, 0), ("block", (("box", 2, 2), ("aim", 1, 2))), ("show", 1)),
    "hands": (("hands", (), ()),),
    "lend looked": (("box", 0, 1), ("look", 1, 0), ("lend", 2, 0)),
    "move looked": (("box", 0, 1), ("look", 1, 0), ("move", 2, 0)),
    "set": (("box", 0, 1), ("set", 0, 2)),
    "set looked": (("box", 0, 1), ("look", 1, 0), ("set", 0, 2), ("show", 1)),
    "share": (("box", 0, 1), ("hands", (("lend", 1, 0),), (("show", 0),))),
    "two names": (("box", 0, 1), ("move", 1, 0), ("show", 0)),
    "use lent": (("box", 0, 1), ("lend", 1, 0), ("show", 0)),
}

DESIGNS = [words for many in range(13) for words in itertools.combinations(WORDS, many)]
SMALL = [words for words in DESIGNS if len(words) < 3]


def needs(word):
    """The least design of which the word is a strength."""
    return tuple(sorted((word, BESIDE[word]))) if word in BESIDE else (word,)


def strengths_of(design):
    """The strengths, by the table of this file."""
    return tuple(word for word in design if word not in BESIDE or BESIDE[word] in design)


def some_pairs(seed, many):
    """Pairs of designs as chance has it, half of them alike but for a few words."""
    chance = random.Random(seed)
    for _ in range(many):
        one = chance.choice(DESIGNS)
        yield one, chance.choice(DESIGNS)
        changed = set(chance.sample(WORDS, chance.randrange(4)))
        yield one, tuple(sorted(set(one) ^ changed))


class Examples(unittest.TestCase):
    def test_examples(self):
        found = [strengths(("far", "set")), lets_by_all((), ("far",)), parting(("set",), ("set", "set looked"))]
        self.assertEqual(found, [("set",), True, (("box", 0, 1), ("look", 1, 0), ("set", 0, 2), ("show", 1))])


class Strengths(unittest.TestCase):
    def test_wrong_arguments(self):
        check_design_first(self, strengths)

    def test_none_and_all(self):
        self.assertEqual(strengths(()), ())
        self.assertEqual(strengths(WORDS), WORDS)

    def test_single_words(self):
        for word in WORDS:
            self.assertEqual(strengths((word,)), () if word in BESIDE else (word,))

    def test_words_beside_another(self):
        for word, other in BESIDE.items():
            self.assertEqual(strengths((word,)), ())
            self.assertEqual(strengths(tuple(sorted((word, other)))), tuple(sorted((word, other))))
            rest = tuple(one for one in WORDS if one not in (word, other))
            self.assertNotIn(word, strengths(tuple(sorted(rest + (word,)))))
            self.assertNotIn(word, strengths(tuple(sorted(rest + (other,)))))
            self.assertIn(word, strengths(WORDS))

    def test_words_beside_what_does_not_help_them(self):
        for word, other in BESIDE.items():
            for third in WORDS:
                if third not in (word, other):
                    self.assertNotIn(word, strengths(tuple(sorted((word, third)))))

    def test_every_design(self):
        for design in DESIGNS:
            self.assertEqual(strengths(design), strengths_of(design))

    def test_a_design_lets_by_what_its_strengths_do(self):
        chance = random.Random(13)
        for design in chance.sample(DESIGNS, 150):
            for _ in range(3):
                self.assertIs(lets_by(strengths(design), grown_program(chance, design, 9, 30)), True)


class LetsByAll(unittest.TestCase):
    def test_wrong_arguments(self):
        check_design_first(self, lambda design: lets_by_all(design, ()))
        check_design_first(self, lambda design: lets_by_all((), design))
        check_design_first(self, lambda design: lets_by_all(WORDS, design))
        check_design_first(self, lambda design: lets_by_all(design, design))
        check_design_first(self, lambda design: lets_by_all(design, NO_DESIGNS[0]))

    def test_itself_and_the_ends(self):
        for design in DESIGNS:
            self.assertIs(lets_by_all(design, design), True)
            self.assertIs(lets_by_all(WORDS, design), True)
            self.assertIs(lets_by_all(design, ()), True)
            self.assertIs(lets_by_all((), design), strengths_of(design) == ())

    def test_words_that_are_no_strengths(self):
        for word, other in BESIDE.items():
            self.assertIs(lets_by_all((), (word,)), True)
            self.assertIs(lets_by_all((other,), (word,)), True)
            self.assertIs(lets_by_all((word,), ()), True)
            self.assertIs(lets_by_all((word,), (other,)), False)
            self.assertIs(lets_by_all((other,), needs(word)), False)
            self.assertIs(lets_by_all((word,), needs(word)), False)
            self.assertIs(lets_by_all(needs(word), (word,)), True)
        self.assertIs(lets_by_all((), ("drop looked", "far", "set looked", "share")), True)
        self.assertIs(lets_by_all(("blocks",), ("drop looked", "far", "set looked", "share")), True)
        self.assertIs(lets_by_all(("blocks",), ("blocks", "drop looked", "far", "set looked", "share")), False)

    def test_pairs(self):
        pairs = itertools.chain(itertools.product(SMALL, SMALL), some_pairs(1, 3000))
        for one, other in pairs:
            expected = set(strengths_of(other)) <= set(strengths_of(one))
            self.assertIs(lets_by_all(one, other), expected, (one, other))

    def test_what_other_lets_by_one_lets_by(self):
        chance = random.Random(14)
        for other in chance.sample(DESIGNS, 150):
            program = grown_program(chance, other, 9, 30)
            for one in chance.sample(DESIGNS, 150):
                if lets_by_all(one, other):
                    self.assertIs(lets_by(one, program), True, (one, other, program))
            wider = tuple(sorted(set(strengths_of(other)) | set(chance.sample(WORDS, 2))))
            self.assertIs(lets_by_all(wider, other), True)
            self.assertIs(lets_by(wider, program), True, (wider, other, program))


class Parting(unittest.TestCase):
    def test_wrong_arguments(self):
        check_design_first(self, lambda design: parting(design, ()))
        check_design_first(self, lambda design: parting((), design))
        check_design_first(self, lambda design: parting(WORDS, design))
        check_design_first(self, lambda design: parting(design, design))
        check_design_first(self, lambda design: parting(design, NO_DESIGNS[0]))

    def check_parts(self, one, other, word):
        """The least strength that other has and one has not is the word."""
        program = parting(one, other)
        self.assertEqual(program, PARTINGS[word], (one, other))
        self.assertIs(lets_by(other, program), True, (one, other))
        self.assertIs(lets_by(one, program), False, (one, other))

    def test_each_word_alone(self):
        for word in WORDS:
            rest = tuple(one for one in WORDS if one != word)
            without = tuple(one for one in needs(word) if one != word)
            self.check_parts(without, needs(word), word)
            self.check_parts(without, WORDS, min(one for one in WORDS if one not in without))
            self.check_parts(rest, WORDS, word)
            self.check_parts(rest, needs(word), word)

    def test_a_word_that_counts_only_beside_another(self):
        for word, other in BESIDE.items():
            rest = tuple(one for one in WORDS if one != other)
            self.check_parts((word,), needs(word), min(needs(word)))
            self.check_parts(rest, WORDS, min(word, other))
            self.assertIsNone(parting((), (word,)))
            self.assertIsNone(parting((other,), (word,)))

    def test_the_least_of_several(self):
        self.check_parts((), WORDS, "blocks")
        self.check_parts(("blocks",), WORDS, "drop")
        self.check_parts(("blocks", "drop"), WORDS, "drop looked")
        self.check_parts((), ("far", "set", "set looked", "share"), "set")
        self.check_parts((), ("set", "two names", "use lent"), "set")
        self.check_parts(("set",), ("set looked", "two names", "use lent"), "two names")

    def test_pairs(self):
        for one, other in itertools.chain(itertools.product(SMALL, SMALL), some_pairs(2, 3000)):
            lacking = sorted(set(strengths_of(other)) - set(strengths_of(one)))
            self.assertIs(parting(one, other) is None, lets_by_all(one, other))
            if lacking:
                self.check_parts(one, other, lacking[0])
            else:
                self.assertIsNone(parting(one, other), (one, other))


if __name__ == "__main__":
    unittest.main()
