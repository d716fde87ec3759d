"""Point [9]: the texts of books."""

import random
import unittest

from norowstray.errors import BadText, InvalidBook
from norowstray.texts import read_book, write_book
from tests.helpers import raised

SCHEME = (3, 3)
LINES = ("settles 0 0 to 1 2", "deals 0 to 2", "joins 1 part 0 1 part 1 2", "within 0 2 0 of 1 0 1")
BOOK = (("settles", 0, (0,), (1, 2)), ("deals", 0, (), (2,)), ("joins", 1, ((0, 1), (1, 2))),
        ("within", 0, (2, 0), 1, (0, 1)))

BAD_LINES = (
    "", " ", "\t", "settles", "settles 0", "settles 0 0 1", "settles to", "settles 0 0 to 1 to 2", "settles to 0 to 1",
    "settles 0  0 to 1", " settles 0 0 to 1", "settles 0 0 to 1 ", "settles 0 0 to ", "settles  0 0 to 1",
    "settles\t0 0 to 1", "settles 0 0\tto 1", "settles 0 0 to\t1", "settles 0 0 to 1\t", "settles 0 0 to 1\r",
    "settles 0 0 to 1\x0b", "settles 0 0 to 1\x0c", "settles 0 0 to 1\x1c", "settles 0 0 to 1\x00",
    "Settles 0 0 to 1", "SETTLES 0 0 to 1", "settles 0 0 TO 1", "settles 0 0 To 1", "settle 0 0 to 1",
    "settles -1 0 to 1", "settles +1 0 to 1", "settles 0 +0 to 1", "settles 0 -0 to 1", "settles 0 0 to -1",
    "settles 00 0 to 1", "settles 0 00 to 1", "settles 0 0 to 01", "settles 0 0 to 1_0", "settles 0 0 to 1.0",
    "settles 0 0 to 0x1", "settles 0 0 to a", "settles 0 0,1 to 2", "settles 0 0 of 1", "settles 0 0 to part 1",
    "settles 0 0 to 1 0 of 2", "settles (0) 0 to 1", "settles 0 0 to 1;",
    "deals", "deals 0", "deals 0 1", "deals 0 1 of 2", "deals to", "deals to 1", "deals 0 to  1", "Deals 0 0 to 1",
    "deals 0 1 to to 2", "deals 0 0 to " + "1" * 61, "deals 0 " + "1" * 61 + " to 1", "deals " + "1" * 61 + " to",
    "settles " + "9" * 61 + " 0 to 1", "settles 0 0 to " + "1" * 5000,
    "joins", "joins 0", "joins 0 0 1", "joins 0 part", "joins 0 part 0 part", "joins 0 part part 0",
    "joins 0 0 part 1", "joins part 0", "joins part 0 1", "joins 0 part 0 1 to 2", "joins 0 Part 0 1",
    "joins 0 part 0  1", "joins 0 part 0 1 part 01", "joins 0 part -1", "joins 0 part " + "1" * 61,
    "joins 0 parts 0 1", "joins 0 part 0 1 ", "joins -0 part 0",
    "within", "within 0", "within 0 1", "within 0 of 1", "within 0 of 1 0", "within 0 0 of", "within 0 0 of 1",
    "within 0 0 1 0", "within of 1 0", "within 0 0 of 1 0 of 1", "within 0 0 to 1 0", "within 0 0 of of 1",
    "within 0 0 OF 1 0", "within 0 0 of 1 00", "within 0 0 of 01 0", "within 0 -1 of 1 0", "within 0 0 of  1 0",
    "within 0 " + "1" * 61 + " of 1 0", "within 0 0 of " + "1" * 61 + " 0", "within 0 0 of 1 " + "1" * 61,
    "0 settles 0 to 1", "keeps 0 0 to 1", "to", "of", "part", "0", "# settles 0 0 to 1",
)


class WriteTest(unittest.TestCase):
    def test_example_of_the_interface(self):
        self.assertEqual(write_book(BOOK), "".join(line + "\n" for line in LINES))

    def test_empty_book(self):
        self.assertEqual(write_book(()), "")

    def test_empty_sides(self):
        self.assertEqual(write_book((("settles", 0, (), ()),)), "settles 0 to\n")
        self.assertEqual(write_book((("deals", 1, (0, 2), ()),)), "deals 1 0 2 to\n")

    def test_long_numbers(self):
        long = 10 ** 60 - 1
        self.assertEqual(write_book((("deals", 0, (long,), (0,)),)), f"deals 0 {long} to 0\n")

    def test_many_parts(self):
        text = write_book((("joins", 0, ((0,),) * 30000),))
        self.assertEqual(text, "joins 0" + " part 0" * 30000 + "\n")


class ReadTest(unittest.TestCase):
    def test_reads_the_example(self):
        self.assertEqual(read_book(SCHEME, "".join(line + "\n" for line in LINES)), BOOK)

    def test_empty_text(self):
        self.assertEqual(read_book((1,), ""), ())

    def test_empty_sides(self):
        self.assertEqual(read_book((1,), "settles 0 to\ndeals 0 to 0\ndeals 0 0 to\n"),
                         (("settles", 0, (), ()), ("deals", 0, (), (0,)), ("deals", 0, (0,), ())))

    def test_each_bad_line_is_told_by_its_number(self):
        for line in BAD_LINES:
            for ahead in (0, 1, 3):
                for behind in ((), (LINES[1],), ("worse", "")):
                    text = "".join(one + "\n" for one in LINES[:ahead] + (line,) + behind)
                    error = raised(read_book, SCHEME, text)
                    self.assertIs(type(error), BadText, line)
                    self.assertEqual(error.line, ahead + 1, line)

    def test_missing_newline_at_the_end(self):
        for text, line in ((LINES[0], 1), (LINES[0] + "\n" + LINES[1], 2), ("x", 1), (" ", 1),
                           (LINES[0] + "\n ", 2), ("bad\n" + LINES[1], 1), (LINES[0] + "\nbad\n" + LINES[1], 2)):
            error = raised(read_book, SCHEME, text)
            self.assertIs(type(error), BadText)
            self.assertEqual(error.line, line)

    def test_blank_lines(self):
        for text, line in (("\n", 1), ("\n\n", 1), (LINES[0] + "\n\n", 2), (LINES[0] + "\n\n" + LINES[1] + "\n", 2)):
            error = raised(read_book, SCHEME, text)
            self.assertIs(type(error), BadText)
            self.assertEqual(error.line, line)

    def test_only_a_newline_ends_a_line(self):
        for end in ("\r", "\x0b", "\x0c", "\x1c", "\x1d", "\x1e", "\r\n"):
            error = raised(read_book, SCHEME, LINES[0] + end + LINES[1] + "\n" + "bad\n")
            self.assertIs(type(error), BadText)
            self.assertEqual(error.line, 1)

    def test_sixty_digits_are_of_the_form(self):
        long = "1" * 60
        for line in (f"settles {long} 0 to 1", f"settles 0 {long} to 1", f"deals 0 0 to {long}",
                     f"joins 0 part 0 part {long}", f"within 0 {long} of 1 0", f"within 0 0 of {long} 0",
                     f"within 0 0 of 1 {long}"):
            self.assertIs(type(raised(read_book, SCHEME, line + "\n")), InvalidBook)

    def test_form_without_a_right_book(self):
        for line in ("settles 2 0 to 1", "settles 0 3 to 1", "settles 0 1 0 to 2", "settles 0 0 0 to 2", "deals 9 to",
                     "joins 0 part 0 1", "joins 0 part 1 0 part 2", "joins 0 part 0 1 2 3",
                     "within 0 0 of 0 1", "within 0 0 1 of 1 0", "within 0 0 0 of 1 0 1", "within 0 0 of 1 3"):
            self.assertIs(type(raised(read_book, SCHEME, line + "\n")), InvalidBook, line)

    def test_ring_is_an_invalid_book(self):
        text = "within 0 0 of 1 0\nwithin 1 1 of 0 1\n"
        self.assertIs(type(raised(read_book, SCHEME, text)), InvalidBook)

    def test_bad_text_comes_before_an_invalid_book(self):
        error = raised(read_book, SCHEME, "settles 9 0 to 1\nsettles 0 0 to 1\nbad\n")
        self.assertIs(type(error), BadText)
        self.assertEqual(error.line, 3)
        error = raised(read_book, SCHEME, "settles 9 0 to 1")
        self.assertIs(type(error), BadText)
        self.assertEqual(error.line, 1)

    def test_many_lines(self):
        text = "settles 0 0 to 1\n" * 5000
        self.assertEqual(read_book(SCHEME, text), (("settles", 0, (0,), (1,)),) * 5000)
        error = raised(read_book, SCHEME, text + "settles 0 0 to 1 \n" + text)
        self.assertEqual(error.line, 5001)


class ThereAndBackTest(unittest.TestCase):
    def test_reading_what_was_written_gives_the_same_book(self):
        chance = random.Random(9)
        for _ in range(300):
            scheme = tuple(chance.randint(1, 12) for _ in range(chance.randint(1, 4)))
            book = tuple(self.some_dependency(chance, scheme) for _ in range(chance.randint(0, 6)))
            text = write_book(book)
            self.assertEqual(read_book(scheme, text), book)
            self.assertEqual(write_book(read_book(scheme, text)), text)

    def some_dependency(self, chance, scheme):
        table = chance.randrange(len(scheme))
        columns = range(scheme[table])
        kind = chance.choice(("settles", "deals", "joins", "within"))
        if kind == "within" and table + 1 < len(scheme):
            other = chance.randrange(table + 1, len(scheme))
            many = chance.randint(1, min(scheme[table], scheme[other]))
            return (kind, table, tuple(chance.sample(columns, many)), other,
                    tuple(chance.sample(range(scheme[other]), many)))
        if kind == "joins":
            parts = [tuple(c for c in columns if chance.random() < 0.5) or (0,) for _ in range(chance.randint(1, 4))]
            missing = tuple(c for c in columns if not any(c in part for part in parts))
            return kind, table, tuple(parts) + ((missing,) if missing else ())
        sides = [tuple(c for c in columns if chance.random() < 0.4) for _ in range(2)]
        return chance.choice(("settles", "deals")), table, *sides
