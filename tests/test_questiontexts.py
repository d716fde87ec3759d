"""Point [42]: questions as texts."""

import copy
import random
import unittest

from norowstray.errors import BadText, InvalidQuestion
from norowstray.questiontexts import read_question, write_question
from tests.helpers import raised

LINES = ("ask v2", "row 0 v1 5", "row 1 v1 v2")
QUESTION = ((-2,), ((0, (-1, 5)), (1, (-1, -2))))
LONGEST = int("9" * 60)
TOO_LONG = "1" + "0" * 60

# Each of these is neither a number nor a variable.
BAD_WORDS = ("v0", "v00", "v01", "v", "v-1", "v+1", "vv1", "V1", "v 1", "v1v", "v1.", "v1_0", "w1", "1v", "-1", "+1",
             "-0", "00", "01", "1_0", "1.0", "0x1", "a", "1,", "-v1", "(v1)", TOO_LONG, "v" + TOO_LONG, "1" * 5000,
             "v" + "1" * 5000, "0" * 60, "v" + "0" * 60, "ask", "row", "")
BAD_ENDS = (" ", "\t", "\r", "\x0b", "\x0c", "\x1c", "\x00", "  ")
BAD_HEADS = tuple("ask " + word for word in BAD_WORDS) + tuple("ask v1 " + word for word in BAD_WORDS) + tuple(
    "ask v1" + end for end in BAD_ENDS) + tuple("ask" + end for end in BAD_ENDS) + (
    "ask 1", "ask 0", "ask v1 5", "", " ", "\t", " ask", " ask v1", "ask  v1", "ask v1  v2", "ask\tv1", "Ask v1", "ASK",
    "asks", "ask1", "askv1", "v1", "row 0 v1", "row v1", "head v1", "# ask")
BAD_ATOMS = tuple("row 0 " + word for word in BAD_WORDS) + tuple("row 0 v1 " + word for word in BAD_WORDS) + tuple(
    "row " + word + " v1" for word in BAD_WORDS) + tuple("row 0 v1" + end for end in BAD_ENDS) + (
    "row", "row 0", "row 0 ", "row v1", "row v1 v2", "row  0 v1", "row 0  v1", " row 0 v1", "row\t0 v1", "row 0\tv1",
    "Row 0 v1", "ROW 0 v1", "rows 0 v1", "row0 v1", "0 v1", "row 0 v1 row 0 v1", "ask", "ask v1", "ask v2", "", " ",
    "\t", "# row 0 v1", "table 0")


class Texts(unittest.TestCase):
    def bad(self, text, line):
        error = raised(read_question, text)
        self.assertIs(type(error), BadText, text[:200])
        self.assertEqual(error.line, line, text[:200])

    def both(self, question, text):
        self.assertEqual(write_question(question), text)
        self.assertEqual(read_question(text), question)


class WriteAndReadTest(Texts):
    def test_example_of_the_interface(self):
        self.both(QUESTION, "ask v2\nrow 0 v1 5\nrow 1 v1 v2\n")

    def test_empty_head(self):
        self.both(((), ((0, (-1,)),)), "ask\nrow 0 v1\n")
        self.both(((), ((3, (0, 7)),)), "ask\nrow 3 0 7\n")

    def test_a_variable_more_than_once(self):
        self.both(((-1, -2, -1), ((0, (-1, -1, -2)),)), "ask v1 v2 v1\nrow 0 v1 v1 v2\n")

    def test_an_atom_more_than_once(self):
        self.both(((-1,), ((0, (-1,)), (0, (-1,)))), "ask v1\nrow 0 v1\nrow 0 v1\n")

    def test_numbers(self):
        self.both(((-10, -105), ((12, (0, 10, -10, -105)),)), "ask v10 v105\nrow 12 0 10 v10 v105\n")

    def test_sixty_digits(self):
        self.both(((-LONGEST,), ((LONGEST, (LONGEST, -LONGEST)),)),
                  f"ask v{LONGEST}\nrow {LONGEST} {LONGEST} v{LONGEST}\n")

    def test_many_atoms_and_terms(self):
        self.both(((-1,), ((0, (-1, 2)),) * 5000), "ask v1\n" + "row 0 v1 2\n" * 5000)
        self.both(((-5,) * 9000, ((0, (-5,) * 9000),)), "ask" + " v5" * 9000 + "\nrow 0" + " v5" * 9000 + "\n")

    def test_by_chance(self):
        chance = random.Random(42)
        for _ in range(300):
            atoms = tuple((chance.randint(0, 20), tuple(chance.randint(-15, 15) for _ in range(chance.randint(1, 4))))
                          for _ in range(chance.randint(1, 4)))
            variables = [term for _, terms in atoms for term in terms if term < 0]
            head = tuple(chance.choice(variables) for _ in range(chance.randint(0, 3))) if variables else ()
            text = write_question((head, atoms))
            self.both((head, atoms), text)
            self.assertEqual(len(text.split("\n")), 2 + len(atoms))


class BadTextTest(Texts):
    def test_a_text_without_a_line(self):
        self.bad("", 1)

    def test_each_bad_first_line(self):
        for line in BAD_HEADS:
            for behind in ((), LINES[1:], ("worse", "")):
                self.bad("".join(one + "\n" for one in (line,) + behind), 1)

    def test_each_bad_line_behind_it(self):
        for line in BAD_ATOMS:
            for ahead in (1, 2, 3):
                for behind in ((), LINES[1:2], ("worse", "")):
                    self.bad("".join(one + "\n" for one in LINES[:ahead] + (line,) + behind), ahead + 1)

    def test_a_second_line_that_asks(self):
        self.bad("ask v1\nask v1\nrow 0 v1\n", 2)
        self.bad("ask v1\nrow 0 v1\nask v1\n", 3)
        self.bad("ask\nask\n", 2)

    def test_no_line_that_asks(self):
        self.bad("row 0 v1\n", 1)
        self.bad("row 0 v1\nask v1\n", 1)

    def test_missing_newline_at_the_end(self):
        for text, line in (("ask", 1), ("ask v1", 1), ("x", 1), (" ", 1), ("ask v1\nrow 0 v1", 2), ("ask v1\n ", 2),
                           ("ask v1\nrow 0 v1\nrow 0 v1", 3), ("bad\nrow 0 v1", 1), ("ask v1\nbad\nrow 0 v1", 2)):
            self.bad(text, line)

    def test_blank_lines(self):
        for text, line in (("\n", 1), ("\nask v1\nrow 0 v1\n", 1), ("ask v1\n\nrow 0 v1\n", 2),
                           ("ask v1\nrow 0 v1\n\n", 3)):
            self.bad(text, line)

    def test_only_a_newline_ends_a_line(self):
        for end in ("\r", "\x0b", "\x0c", "\x1c", "\x1d", "\x1e", "\r\n"):
            self.bad("ask v1" + end + "row 0 v1\n", 1)
            self.bad("ask v1\nrow 0 v1" + end + "row 0 v1\nbad\n", 2)


class InvalidQuestionTest(Texts):
    def invalid(self, text):
        self.assertIs(type(raised(read_question, text)), InvalidQuestion, text)

    def test_no_atom(self):
        self.invalid("ask\n")
        self.invalid("ask v1\n")

    def test_a_variable_of_the_head_in_no_atom(self):
        self.invalid("ask v2\nrow 0 v1\n")
        self.invalid("ask v1 v2\nrow 0 v1 2\nrow 1 v1\n")
        self.invalid("ask v1\nrow 0 1\n")
        self.invalid("ask v1 v11\nrow 0 v1\n")
        self.invalid("ask v1 v3 v2\nrow 0 v1\nrow 1 v2\n")

    def test_a_variable_in_the_last_atom_alone(self):
        self.assertEqual(read_question("ask v2\nrow 0 v1\nrow 1 v2\n"), ((-2,), ((0, (-1,)), (1, (-2,)))))

    def test_bad_text_comes_before_it(self):
        self.bad("ask v2\nrow 0 v1\nbad\n", 3)
        self.bad("ask v2\nrow 0 v1", 2)
        self.bad("ask v2\nbad\n", 2)
        self.bad("ask v2", 1)


class SharingTest(unittest.TestCase):
    def test_arguments_stay_and_answers_are_the_same_again(self):
        kept = copy.deepcopy(QUESTION)
        text = write_question(QUESTION)
        self.assertEqual(write_question(QUESTION), text)
        self.assertEqual(QUESTION, kept)
        told = read_question(text)
        self.assertEqual(read_question(text), told)
        self.assertTrue(all(isinstance(one, tuple) for one in (told, told[0], told[1]) + told[1]))
