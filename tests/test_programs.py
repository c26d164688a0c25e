"""Point 2 and the interface of programs.py."""

import unittest

from ownedborder.checker import fault
from ownedborder.errors import BadProgram, NotMade
from ownedborder.programs import is_program

from helper import NO_PROGRAMS

# One of each plain statement.
PLAIN = (
    ("box", 0, 1), ("move", 1, 0), ("look", 2, 1), ("lend", 3, 1), ("show", 1), ("set", 1, 5),
    ("drop", 1), ("end", 2), ("aim", 2, 1),
)
OF_HAND = PLAIN[2:]
NO_NAMES = (-1, 41, 100, True, False, None, "0", "", (), (0,), [], [0], {}, NotMade("x"))
NO_NUMBERS = (-1, 100, 10 ** 30, True, False, None, "0", "", (), (0,), [], [0], {}, NotMade("x"))


def index_of(program):
    """The index of BadProgram for a value that is no program."""
    try:
        fault((), program)
    except BadProgram as error:
        return error.index
    return "a program"


class Programs(unittest.TestCase):
    def check_item(self, item, stands):
        self.assertIs(is_program((item,)), stands, item)
        self.assertEqual(index_of((item,)), "a program" if stands else 0, item)
        self.assertIs(is_program((("box", 0, 1), item)), stands, item)
        self.assertEqual(index_of((("box", 0, 1), item)), "a program" if stands else 1, item)

    def test_examples(self):
        found = [
            is_program((("box", 0, 1), ("hands", (("show", 0),), ()))),
            is_program((("block", (("block", ()),)),)),
        ]
        self.assertEqual(found, [True, False])

    def test_each_plain_statement(self):
        for item in PLAIN:
            self.check_item(item, True)
        self.assertIs(is_program(PLAIN), True)
        self.assertIs(is_program(()), True)

    def test_words(self):
        for word in ("", "Box", "box ", "boxes", "make", "block", "hands", b"box", 0, None, True, (), [], {}):
            for length in (1, 2, 3, 4):
                self.check_item((word,) + (0,) * (length - 1), False)
        for item in (None, True, 0, 5, "", "show", [], {}, NotMade("x"), ()):
            self.check_item(item, False)

    def test_limits_of_names(self):
        for word in ("box", "move", "look", "lend", "aim", "set"):
            for name in (0, 1, 39, 40):
                self.check_item((word, name, 1), True)
            for name in NO_NAMES:
                self.check_item((word, name, 1), False)
        for word in ("move", "look", "lend", "aim"):
            for name in (0, 1, 39, 40):
                self.check_item((word, 1, name), True)
            for name in NO_NAMES:
                self.check_item((word, 1, name), False)
        for word in ("show", "drop", "end"):
            for name in (0, 1, 39, 40):
                self.check_item((word, name), True)
            for name in NO_NAMES:
                self.check_item((word, name), False)

    def test_limits_of_numbers(self):
        for word in ("box", "set"):
            for number in (0, 1, 41, 98, 99):
                self.check_item((word, 0, number), True)
            for number in NO_NUMBERS:
                self.check_item((word, 0, number), False)

    def test_lengths_of_statements(self):
        for item in PLAIN:
            self.check_item(item[:-1], False)
            self.check_item(item + (0,), False)
            self.check_item(item[:1], False)
            self.check_item(list(item), False)
        for item in (("block",), ("block", (), ()), ("hands",), ("hands", ()), ("hands", (), (), ())):
            self.check_item(item, False)

    def test_blocks(self):
        for body in ((), PLAIN[:6], PLAIN[3:9]):
            self.check_item(("block", body), True)
        for item in PLAIN:
            self.check_item(("block", (item,)), True)
            self.check_item(("block", (item,) * 6), True)
            self.check_item(("block", (item,) * 7), False)
        for body in (None, True, 0, "", "show", [], [("show", 0)], {}, ("show", 0), (("show",),), (["show", 0],)):
            self.check_item(("block", body), False)
        self.check_item(["block", ()], False)
        self.check_item(("block", (("show", 0), ("block", ()))), False)
        self.check_item(("block", (("hands", (), ()),)), False)
        self.check_item(("block", (("show", 0),) * 5 + (("show", 41),)), False)

    def test_hands(self):
        self.check_item(("hands", (), ()), True)
        for item in OF_HAND + (("block", ()), ("block", PLAIN[:6])):
            self.check_item(("hands", (item,), ()), True)
            self.check_item(("hands", (), (item,)), True)
            self.check_item(("hands", (item,) * 4, (item,) * 4), True)
            self.check_item(("hands", (item,) * 5, ()), False)
            self.check_item(("hands", (), (item,) * 5), False)
        self.check_item(["hands", (), ()], False)

    def test_what_hands_may_not_hold(self):
        for item in PLAIN[:2] + (("hands", (), ()), ("block", (("block", ()),)), ("block", PLAIN[:7]), ("show",)):
            self.check_item(("hands", (item,), ()), False)
            self.check_item(("hands", (), (item,)), False)
            self.check_item(("hands", (("show", 0), item), ()), False)
        for item in PLAIN[:2]:
            self.check_item(("hands", (("block", (item,)),), (("block", (item,)),)), True)
        for body in (None, True, 0, "", [], [("show", 0)], {}, ("show", 0), (["show", 0],), (["block", ()],)):
            self.check_item(("hands", body, ()), False)
            self.check_item(("hands", (), body), False)

    def test_length_of_programs(self):
        for item in PLAIN + (("block", ()), ("hands", (), ())):
            self.assertIs(is_program((item,) * 12), True)
            self.assertIs(is_program((item,) * 13), False)
            self.assertIsNone(index_of((item,) * 13))

    def test_values_that_are_no_programs(self):
        for value, index in NO_PROGRAMS:
            with self.subTest(value=repr(value)):
                self.assertIs(is_program(value), False)
                self.assertEqual(index_of(value), index)

    def test_index(self):
        self.assertIsNone(index_of(None))
        self.assertIsNone(index_of([("show", 0)]))
        self.assertIsNone(index_of((None,) * 13))
        self.assertEqual(index_of((None,) * 12), 0)
        self.assertEqual(index_of(PLAIN + (("block", ()), ("hands", (), ()), ("show",))), 11)
        self.assertEqual(index_of((("show", 0), ("block", (("show",),)), ("show",))), 1)


if __name__ == "__main__":
    unittest.main()
