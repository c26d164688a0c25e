"""Point 3 and the interface of designs.py."""

import itertools
import unittest

from ownedborder.designs import is_design

from helper import NO_DESIGNS, WORDS


class Designs(unittest.TestCase):
    def test_examples(self):
        self.assertEqual([is_design(("set", "share")), is_design(("share", "set"))], [True, False])

    def test_none_one_and_all_words(self):
        self.assertIs(is_design(()), True)
        self.assertIs(is_design(WORDS), True)
        for word in WORDS:
            self.assertIs(is_design((word,)), True)
            self.assertIs(is_design((word, word)), False)
            self.assertIs(is_design([word]), False)
            self.assertIs(is_design(word), False)

    def test_order_of_two_words(self):
        for one, other in itertools.product(WORDS, WORDS):
            self.assertIs(is_design((one, other)), one < other)

    def test_order_of_three_words(self):
        for words in itertools.permutations(("drop", "far", "set")):
            self.assertIs(is_design(words), words == ("drop", "far", "set"))
        self.assertIs(is_design(("drop", "far", "far", "set")), False)

    def test_every_design(self):
        for many in range(len(WORDS) + 1):
            for words in itertools.combinations(WORDS, many):
                self.assertIs(is_design(words), True)

    def test_values_that_are_no_designs(self):
        for value in NO_DESIGNS:
            with self.subTest(value=repr(value)):
                self.assertIs(is_design(value), False)


if __name__ == "__main__":
    unittest.main()
