"""Point 14 and the interface of texts.py."""

import random
import unittest

from ownedborder.errors import InvalidText, NotText
from ownedborder.programs import is_program
from ownedborder.texts import read_program, write_program

from helper import NO_STRINGS, PLAIN_WORDS, check_program, grown_program, random_item

# One of each plain statement, with its line.
PLAIN = (
    (("box", 0, 1), "box 0 1"), (("move", 1, 0), "move 1 0"), (("look", 40, 12), "look 40 12"),
    (("lend", 3, 40), "lend 3 40"), (("show", 10), "show 10"), (("set", 7, 99), "set 7 99"),
    (("drop", 0), "drop 0"), (("end", 39), "end 39"), (("aim", 5, 6), "aim 5 6"),
)
SHOW = ("show", 0)
# Lines that no program has anywhere.
NO_LINES = (
    "", " ", "fly 0", "Box 0 1", "BOX 0 1", "boxes 0 1", "box", "show", "set", "box 0", "box 0 1 2", "move 1",
    "move 1 0 2", "look 1", "look 1 0 0", "lend 1", "lend 1 0 0", "show 0 1", "set 0", "set 0 1 2", "drop",
    "drop 0 0", "end", "end 0 0", "aim 1", "aim 1 0 0", "box  0 1", "box 0  1", " box 0 1", "box 0 1 ", "show  0",
    " show 0", "show 0 ", "show\t0", "\tshow 0", "show 0\t", "show 0\r", "show\n0 1", "show 00", "show 01",
    "show 000", "box 00 1", "box 0 01", "set 0 00", "set 0 007", "box 01 1", "show +1", "show -1", "show -0",
    "show +0", "box 0 -1", "box 0 +1", "show 41", "box 41 1", "move 41 0", "move 0 41", "look 41 0", "look 0 41",
    "lend 41 0", "lend 0 41", "set 41 1", "drop 41", "end 41", "aim 41 0", "aim 0 41", "box 0 100", "set 0 100",
    "show 99", "show 100", "box 0 1000", "show " + "9" * 5000, "show " + "0" * 5000, "box 0 " + "1" * 5000,
    "show 1.0", "show 1_0", "show 0x1", "show 1e0", "show a", "show None", "show True", "show ()", "show (0,)",
    "show \u0661", "show \u00b2", "show \uff11", "box 0 \u0661", "show \u0967", "show\u00a00", "show\u30000",
    "box 0 1,", "box(0, 1)", "box 0 1;", "0", "0 1", "show 'x'", "('show', 0)", "#", "# show 0",
    "block ", " block", "block 0", "Block", "hands ", " hands", "hands 0", "end  block", "end block ", " end block",
    "end blocks", "endblock", "end_block", "end  hands", "end hands ", " end hands", "end hand", "beside ",
    " beside", "beside 0", "end beside", "end of block", "block end", "hands end", "end block 0", "end program",
)


def text_of(*lines):
    return "\n".join(lines)


class Writing(unittest.TestCase):
    def test_examples(self):
        found = [write_program((("block", (("box", 0, 1),)),)), read_program("hands\nshow 0\nbeside\nend hands")]
        self.assertEqual(found, ["block\nbox 0 1\nend block", (("hands", (("show", 0),), ()),)])
        with self.assertRaises(InvalidText) as caught:
            read_program("block")
        self.assertEqual(caught.exception.line, 2)

    def test_wrong_arguments(self):
        check_program(self, write_program)

    def check_pair(self, program, *lines):
        self.assertEqual(write_program(program), text_of(*lines))
        self.assertEqual(read_program(text_of(*lines)), program)

    def test_no_statement(self):
        self.assertEqual(write_program(()), "")
        self.assertEqual(read_program(""), ())

    def test_each_plain_statement(self):
        for statement, line in PLAIN:
            self.check_pair((statement,), line)
            self.check_pair((("box", 0, 1), statement), "box 0 1", line)
        self.check_pair(tuple(one for one, _ in PLAIN), *(line for _, line in PLAIN))

    def test_blocks(self):
        self.check_pair((("block", ()),), "block", "end block")
        self.check_pair((("block", ()), ("block", ())), "block", "end block", "block", "end block")
        for statement, line in PLAIN:
            self.check_pair((("block", (statement,)), SHOW), "block", line, "end block", "show 0")
        body = tuple(one for one, _ in PLAIN[:6])
        self.check_pair((SHOW, ("block", body)), "show 0", "block", *(line for _, line in PLAIN[:6]), "end block")

    def test_hands(self):
        self.check_pair((("hands", (), ()),), "hands", "beside", "end hands")
        self.check_pair((("hands", (SHOW,), ()),), "hands", "show 0", "beside", "end hands")
        self.check_pair((("hands", (), (SHOW,)),), "hands", "beside", "show 0", "end hands")
        for statement, line in PLAIN[2:]:
            self.check_pair((("hands", (statement,), (SHOW,)),), "hands", line, "beside", "show 0", "end hands")
            self.check_pair((("hands", (SHOW,), (statement,)),), "hands", "show 0", "beside", line, "end hands")
        self.check_pair((("hands", (SHOW,) * 4, (SHOW,) * 4),),
                        "hands", *("show 0",) * 4, "beside", *("show 0",) * 4, "end hands")
        self.check_pair((("hands", (), ()), ("hands", (), ()), SHOW),
                        "hands", "beside", "end hands", "hands", "beside", "end hands", "show 0")

    def test_blocks_within_hands(self):
        empty, lines = ("block", ()), ("block", "end block")
        self.check_pair((("hands", (empty,), (empty,)),), "hands", *lines, "beside", *lines, "end hands")
        self.check_pair((("hands", (empty,) * 4, ()),), "hands", *lines * 4, "beside", "end hands")
        for statement, line in PLAIN:
            block = ("block", (statement, SHOW))
            lines = ("block", line, "show 0", "end block")
            self.check_pair((("hands", (block, SHOW), ()),), "hands", *lines, "show 0", "beside", "end hands")
            self.check_pair((("hands", (), (SHOW, block)),), "hands", "beside", "show 0", *lines, "end hands")

    def test_twelve_items(self):
        self.check_pair((SHOW,) * 12, *("show 0",) * 12)
        self.check_pair((("block", ()),) * 12, *("block", "end block") * 12)
        self.check_pair((("hands", (), ()),) * 12, *("hands", "beside", "end hands") * 12)

    def test_all_names_and_numbers(self):
        for number in range(100):
            self.check_pair((("box", 3, number), ("set", 3, number)), f"box 3 {number}", f"set 3 {number}")
        for name in range(41):
            self.check_pair((("box", name, 5), ("move", 2, name), ("end", name)),
                            f"box {name} 5", f"move 2 {name}", f"end {name}")

    def test_numbers_that_are_read_are_integers(self):
        for item in read_program("box 0 1\nset 1 0")[0][1:]:
            self.assertIs(type(item), int)

    def test_many_programs(self):
        chance = random.Random(15)
        for _ in range(1500):
            program = tuple(random_item(chance) for _ in range(chance.randrange(13)))
            text = write_program(program)
            self.assertEqual(read_program(text), program)
            self.assertEqual(write_program(read_program(text)), text)
        design = ("blocks", "drop", "hands", "set", "share")
        for _ in range(50):
            program = grown_program(chance, design, 12, 40)
            self.assertEqual(read_program(write_program(program)), program)

    def test_texts_need_no_design(self):
        self.check_pair((("show", 9), ("box", 0, 1), ("box", 0, 1)), "show 9", "box 0 1", "box 0 1")


class Reading(unittest.TestCase):
    """The line of InvalidText is the first that cannot stand there."""

    def fails(self, line, *lines):
        with self.assertRaises(InvalidText, msg=repr(lines)) as caught:
            read_program(text_of(*lines))
        self.assertEqual(caught.exception.line, line, lines)

    def fails_everywhere(self, line):
        """The line can stand nowhere; alone an empty one would be the text of no statement."""
        self.fails(1, line, "show 0")
        if line != "":
            self.fails(1, line)
        for ahead in (("show 0",), ("block",), ("block", "show 0"), ("hands",), ("hands", "show 0"),
                      ("hands", "beside"), ("hands", "beside", "show 0"), ("hands", "block"),
                      ("hands", "block", "end block"), ("hands", "beside", "block"),
                      ("block", "end block"), ("hands", "beside", "end hands")):
            self.fails(len(ahead) + 1, *ahead, line)
            self.fails(len(ahead) + 1, *ahead, line, "show 0")
            self.fails(len(ahead) + 1, *ahead, line, "", "fly")

    def test_no_strings(self):
        for value in NO_STRINGS + (("show 0",), (), 1, b"show 0", [""]):
            with self.subTest(value=repr(value)), self.assertRaises(NotText):
                read_program(value)

    def test_lines_that_stand_nowhere(self):
        for line in NO_LINES:
            with self.subTest(line=line[:30]):
                self.fails_everywhere(line)

    def test_empty_lines(self):
        self.fails(1, "", "")
        self.fails(1, "", "show 0")
        self.fails(2, "show 0", "")
        self.fails(2, "show 0", "", "show 0")
        self.fails(3, "show 0", "show 0", "", "")
        self.fails(3, "block", "end block", "")
        self.fails(4, "hands", "beside", "end hands", "")
        self.fails(13, *("show 0",) * 12, "")

    def test_other_ends_of_lines(self):
        for sign in ("\r\n", "\r", "\x0b", "\x0c", "\x1c", "\x85", "\u2028", "\u2029", ";", "\x00", "\\n"):
            with self.assertRaises(InvalidText) as caught:
                read_program(sign.join(("box 0 1", "show 0")))
            self.assertEqual(caught.exception.line, 1)

    def test_limits(self):
        for word in ("box", "set"):
            self.assertEqual(read_program(f"{word} 40 99"), ((word, 40, 99),))
            self.fails(1, f"{word} 41 99")
            self.fails(1, f"{word} 40 100")
        for word in ("move", "look", "lend", "aim"):
            self.assertEqual(read_program(f"{word} 40 40"), ((word, 40, 40),))
            self.fails(1, f"{word} 41 40")
            self.fails(1, f"{word} 40 41")
        for word in ("show", "drop", "end"):
            self.assertEqual(read_program(f"{word} 40"), ((word, 40),))
            self.fails(1, f"{word} 41")

    def test_box_and_move_straight_in_hands(self):
        for line in ("box 0 1", "move 1 0"):
            self.fails(2, "hands", line, "beside", "end hands")
            self.fails(3, "hands", "show 0", line, "beside", "end hands")
            self.fails(3, "hands", "beside", line, "end hands")
            self.fails(5, "hands", "block", line, "end block", line)
            self.assertTrue(is_program(read_program(text_of(
                "hands", "block", line, "end block", "beside", "block", line, "end block", "end hands"))))

    def test_what_blocks_may_not_hold(self):
        for line in ("block", "hands", "beside", "end hands"):
            self.fails(2, "block", line)
            self.fails(3, "block", "show 0", line, "end block", "end block")
            self.fails(3, "hands", "block", line)
            self.fails(5, "hands", "beside", "block", "show 0", line)

    def test_what_hands_may_not_hold(self):
        for ahead in (("hands",), ("hands", "show 0"), ("hands", "block", "end block")):
            for line in ("hands", "end block", "end hands"):
                self.fails(len(ahead) + 1, *ahead, line)
            for line in ("hands", "end block", "beside"):
                self.fails(len(ahead) + 2, *ahead, "beside", line)
                self.fails(len(ahead) + 3, *ahead, "beside", "show 0", line)

    def test_bounds_where_none_may_stand(self):
        for line in ("beside", "end block", "end hands"):
            self.fails(1, line)
            self.fails(2, "show 0", line)
            self.fails(3, "block", "end block", line)
            self.fails(4, "hands", "beside", "end hands", line)
            self.fails(13, *("show 0",) * 12, line)

    def test_too_many_statements(self):
        show = ("show 0",)
        for line in ("show 0", "fly", "", "block", "hands", "beside", "end hands"):
            self.fails(8, "block", *show * 6, line, "end block")
            self.fails(9, "hands", "block", *show * 6, line)
            self.fails(10, "hands", "beside", "block", *show * 6, line)
        for line in ("show 0", "fly", "", "block", "hands", "end block", "box 0 1", "end hands"):
            self.fails(6, "hands", *show * 4, line, "beside", "end hands")
            self.fails(10, "hands", *("block", "end block") * 4, line, "end block")
        for line in ("show 0", "fly", "", "block", "hands", "end block", "box 0 1", "beside"):
            self.fails(7, "hands", "beside", *show * 4, line, "end hands")
            self.fails(11, "hands", *show * 4, "beside", *show * 4, line)
        for line in ("show 0", "fly", "", "block", "hands", "beside", "end block", "end hands"):
            self.fails(13, *show * 12, line, "end block")
            self.fails(25, *("block", "end block") * 12, line)
            self.fails(14, *show * 11, "block", "end block", line)

    def test_ends_that_are_lacking(self):
        show = ("show 0",)
        for lines in (
            ("block",), ("hands",), ("block", "show 0"), ("block",) + show * 6, ("hands",) + show * 4,
            ("hands", "beside"), ("hands", "beside") + show * 4, ("hands", "block"), ("hands", "block", "show 0"),
            ("hands", "block") + show * 6, ("hands", "block", "end block"), ("hands", "beside", "block"),
            ("hands", "beside", "block", "end block"), show * 11 + ("block",), show * 11 + ("hands", "beside"),
            ("block", "end block", "block"), ("hands", "beside", "end hands", "hands"),
        ):
            self.fails(len(lines) + 1, *lines)
            self.fails(len(lines) + 1, *lines, "")
            self.fails(len(lines) + 1, *lines, "", "")

    def test_the_first_of_several(self):
        self.fails(2, "show 0", "fly", "fly", "block")
        self.fails(1, "end block", "block")
        self.fails(3, "block", "show 0", "show 00", "show 41", "end hands")
        self.fails(2, "block", "hands", "end block", "fly")


class Mutants(unittest.TestCase):
    """Texts changed by chance: what is read was written so, what is refused is so at the first line."""

    ENDINGS = (
        (), ("end block",), ("end hands",), ("beside", "end hands"), ("end block", "end hands"),
        ("end block", "beside", "end hands"),
    )
    LINES = (
        "block", "hands", "beside", "end block", "end hands", "show 0", "box 1 2", "move 1 2", "set 0 1", "", "fly",
    )

    def can_go_on(self, lines):
        """Whether some text begins with these lines; "" is a text without any line."""
        if "" in lines:
            return False
        for ending in self.ENDINGS:
            try:
                read_program(text_of(*lines, *ending))
                return True
            except InvalidText:
                pass
        return False

    def check(self, lines):
        text = text_of(*lines)
        try:
            program = read_program(text)
        except InvalidText as error:
            self.assertIs(self.can_go_on(lines[:error.line - 1]), True, lines)
            if error.line <= len(lines):
                self.assertIs(self.can_go_on(lines[:error.line]), False, lines)
            else:
                self.assertEqual(error.line, len(lines) + 1)
            return False
        self.assertIs(is_program(program), True, lines)
        self.assertEqual(write_program(program), text)
        return True

    def changed(self, chance, lines):
        lines = list(lines)
        for _ in range(chance.randrange(1, 4)):
            at = chance.randrange(len(lines) + 1)
            kind = chance.randrange(4)
            if kind == 0 or at == len(lines):
                lines.insert(at, chance.choice(self.LINES))
            elif kind == 1:
                del lines[at]
            elif kind == 2:
                lines[at] = chance.choice(self.LINES)
            else:
                lines = lines[:at]
        return lines

    def test_changed_texts(self):
        chance = random.Random(16)
        read = 0
        for _ in range(3000):
            program = tuple(random_item(chance) for _ in range(chance.randrange(9)))
            read += self.check(self.changed(chance, write_program(program).split("\n")))
        self.assertGreater(read, 300)

    def test_lines_as_they_come(self):
        chance = random.Random(17)
        for _ in range(3000):
            self.check([chance.choice(self.LINES) for _ in range(chance.randrange(1, 9))])

    def test_words_with_each_count_of_numbers(self):
        lengths = {"show": 1, "drop": 1, "end": 1}
        for word in PLAIN_WORDS:
            for many in range(5):
                self.assertIs(self.check([" ".join([word] + ["1"] * many)]), many == lengths.get(word, 2))


if __name__ == "__main__":
    unittest.main()
