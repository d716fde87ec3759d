"""Point [38]: stores and steps as texts."""

import copy
import random
import unittest

from norowstray.completing import clash, judge_clash
from norowstray.errors import BadText
from norowstray.following import judge, verdict
from norowstray.storetexts import read_steps, read_store, write_steps, write_store
from tests.helpers import raised

STORE_LINES = ("table 0", "row 1 -2", "row 0", "table 1", "table 2", "row 10 20 30")
STORE = (((1, -2), (0,)), (), ((10, 20, 30),))
STEP_LINES = ("equal 0 row 1 -2 row 1 3", "row 2 row 1 2 row 3 4", "put -1 row 5", "row 3")
STEPS = (("equal", 0, (1, -2), (1, 3)), ("row", 2, ((1, 2), (3, 4))), ("put", -1, (5,)), ("row", 3, ()))
LONGEST = int("9" * 60)
TOO_LONG = "1" + "0" * 60

# Each of these is no integer.
BAD_WORDS = ("-0", "00", "01", "-01", "-00", "+1", "+0", "--1", "-", "- 1", "1-", "1_0", "1.0", "0x1", "a", "1,", "v1",
             "(1)", TOO_LONG, "-" + TOO_LONG, "1" * 5000, "0" * 60, "")
BAD_ENDS = (" ", "\t", "\r", "\x0b", "\x0c", "\x1c", "\x00", " \t", "  ")

BAD_STORE_LINES = tuple("row 1 " + word for word in BAD_WORDS) + tuple("row 1" + end for end in BAD_ENDS) + (
    "", " ", "\t", "row", "row ", "row  1", " row 1", "row 1  2", "row\t1", "row 1\t2", "Row 1", "ROW 1", "rows 1",
    "row1", "row 1 row 2", "row row 1", "1", "1 2", "row table 0", "table", "table ", "table -1", "table a", "Table 2",
    "TABLE 2", "table 02", "table +2", "table  2", "table\t2", " table 2", "table 2 ", "table 2 row 1", "table 2 1",
    "table2", "tables 2", "table 0", "table 1", "table 3", "table " + TOO_LONG, "equal 0 row 1 row 2", "put 0 row 1",
    "# table 2")
BAD_STEP_LINES = tuple("put 0 row 1 " + word for word in BAD_WORDS) + tuple(
    "put " + word + " row 1" for word in BAD_WORDS) + tuple("row " + word for word in BAD_WORDS) + tuple(
    "equal 0 row " + word + " row 1" for word in BAD_WORDS) + tuple("put 0 row 1" + end for end in BAD_ENDS) + tuple(
    "row 0" + end for end in BAD_ENDS) + (
    "", " ", "\t", "equal", "equal 0", "equal 0 row 1", "equal 0 row 1 row 2 row 3", "equal row 1 row 2",
    "equal 0 1 row 2", "equal 0 row row 1", "equal 0 row 1 row", "equal 0 row 1  row 2", "equal  0 row 1 row 2",
    "equal 0 row 1 row  2", " equal 0 row 1 row 2", "Equal 0 row 1 row 2", "equal 0 Row 1 row 2",
    "equals 0 row 1 row 2", "equal 0 1 2",
    "put", "put 0", "put row 1", "put 0 row", "put 0 1", "put 0 row 1 row 2", "Put 0 row 1", "PUT 0 row 1",
    "put 0 ROW 1", "put 0 rows 1", "put 0 0 row 1", "put\t0 row 1", "put 0\trow 1",
    "row", "row row", "row row 1", "row 0 row", "row 0 row row 1", "row 0 row 1 row", "row 0 1", "row 0 1 row 2",
    "Row 0", "row 0 Row 1", "row 0 part 1", "table 0", "0 row 1", "step 0 row 1", "# put 0 row 1")


class Texts(unittest.TestCase):
    def bad(self, read, text, line):
        error = raised(read, text)
        self.assertIs(type(error), BadText, text[:200])
        self.assertEqual(error.line, line, text[:200])

    def each_bad_line(self, read, lines, bad_lines, right):
        for line in bad_lines:
            for ahead in right:
                for behind in ((), (lines[-1],), ("worse", "")):
                    text = "".join(one + "\n" for one in lines[:ahead] + (line,) + behind)
                    self.bad(read, text, ahead + 1)

    def ends(self, read, one, other):
        """That each text ends with a newline, and only a newline ends a line."""
        self.bad(read, one, 1)
        self.bad(read, one + "\n" + other, 2)
        self.bad(read, one + "\n ", 2)
        self.bad(read, "bad\n" + one, 1)
        self.bad(read, one + "\nbad\n" + other, 2)
        self.bad(read, "\n", 1)
        self.bad(read, "\n" + one + "\n", 1)
        self.bad(read, one + "\n\n", 2)
        self.bad(read, one + "\n\n" + other + "\n", 2)
        for end in ("\r", "\x0b", "\x0c", "\x1c", "\x1d", "\x1e", "\r\n"):
            self.bad(read, one + end + other + "\nbad\n", 1)


class StoreTest(Texts):
    def both(self, tables, text):
        self.assertEqual(write_store(tables), text)
        self.assertEqual(read_store(text), tables)

    def test_ordinary_store(self):
        self.both(STORE, "".join(line + "\n" for line in STORE_LINES))

    def test_no_tables(self):
        self.both((), "")

    def test_tables_without_rows(self):
        self.both(((),), "table 0\n")
        self.both(((), (), ()), "table 0\ntable 1\ntable 2\n")
        self.both(((), ((1,),), ()), "table 0\ntable 1\nrow 1\ntable 2\n")

    def test_rows_as_they_stand(self):
        self.both((((3, 1), (2,), (3, 1), (0, 0, 0)),), "table 0\nrow 3 1\nrow 2\nrow 3 1\nrow 0 0 0\n")

    def test_integers(self):
        self.both((((0, -1, 10, -10, 105),),), "table 0\nrow 0 -1 10 -10 105\n")
        self.both((((LONGEST, -LONGEST),),), f"table 0\nrow {LONGEST} -{LONGEST}\n")

    def test_more_than_ten_tables(self):
        tables = tuple(((number,),) for number in range(120))
        text = "".join(f"table {number}\nrow {number}\n" for number in range(120))
        self.both(tables, text)
        self.bad(read_store, text + "table 119\n", 241)
        self.bad(read_store, text + "table 121\n", 241)

    def test_each_bad_line_is_told_by_its_number(self):
        # Ahead of it stand tables with the numbers 0 and 1.
        self.each_bad_line(read_store, STORE_LINES[:4] + ("row 7", "table 2"), BAD_STORE_LINES, (4, 5))

    def test_missing_newlines_and_other_ends(self):
        self.ends(read_store, "table 0", "row 1")
        self.ends(read_store, "table 0", "table 1")

    def test_a_table_that_is_not_the_next_one(self):
        for text, line in (("table 1\n", 1), ("table 0\ntable 0\n", 2), ("table 0\nrow 1\ntable 2\n", 3),
                           ("table 0\ntable 1\ntable 1\n", 3), ("table 0\ntable 1\ntable 0\n", 3), ("table -1\n", 1),
                           ("table 00\n", 1), ("table -0\n", 1), ("table\n", 1)):
            self.bad(read_store, text, line)

    def test_a_row_ahead_of_the_first_table(self):
        self.bad(read_store, "row 1\n", 1)
        self.bad(read_store, "row 1\ntable 0\n", 1)

    def test_many_rows(self):
        self.both((((1, 2),) * 10000,), "table 0\n" + "row 1 2\n" * 10000)
        self.bad(read_store, "table 0\n" + "row 1 2\n" * 9000 + "row 1 2 \n" + "row 1\n", 9002)

    def test_by_chance(self):
        chance = random.Random(38)
        for _ in range(300):
            tables = tuple(tuple(self.some_row(chance) for _ in range(chance.randint(0, 4)))
                           for _ in range(chance.randint(0, 4)))
            text = write_store(tables)
            self.both(tables, text)
            self.assertEqual(len(text.split("\n")), 1 + len(tables) + sum(map(len, tables)))

    def some_row(self, chance):
        return tuple(chance.choice((chance.randint(-12, 12), chance.randint(-10 ** 60 + 1, 10 ** 60 - 1)))
                     for _ in range(chance.randint(1, 4)))


class StepTest(Texts):
    def both(self, steps, text):
        self.assertEqual(write_steps(steps), text)
        self.assertEqual(read_steps(text), steps)

    def test_ordinary_steps(self):
        self.both(STEPS, "".join(line + "\n" for line in STEP_LINES))

    def test_no_steps(self):
        self.both((), "")

    def test_rows_of_a_row_step(self):
        self.both((("row", 0, ()),), "row 0\n")
        self.both((("row", 0, ((1,),)),), "row 0 row 1\n")
        self.both((("row", 0, ((1,), (2, 3), (-4,))),), "row 0 row 1 row 2 3 row -4\n")
        self.both((("row", 0, ((5,),) * 9000),), "row 0" + " row 5" * 9000 + "\n")

    def test_rows_of_unlike_widths(self):
        self.both((("equal", 1, (1,), (2, 3)), ("put", 0, (1, 2, 3))), "equal 1 row 1 row 2 3\nput 0 row 1 2 3\n")

    def test_index_is_any_integer(self):
        for index in (0, 7, -1, -20, LONGEST, -LONGEST):
            self.both((("equal", index, (1,), (2,)), ("row", index, ()), ("put", index, (1,))),
                      f"equal {index} row 1 row 2\nrow {index}\nput {index} row 1\n")

    def test_each_bad_line_is_told_by_its_number(self):
        self.each_bad_line(read_steps, STEP_LINES, BAD_STEP_LINES, (0, 1, 3))

    def test_missing_newlines_and_other_ends(self):
        self.ends(read_steps, "equal 0 row 1 row 2", "row 1 row 2")
        self.ends(read_steps, "row 0", "put 0 row 2")

    def test_derivations_and_clashes(self):
        scheme = (3, 2)
        book = (("deals", 0, (0,), (1,)), ("settles", 0, (1,), (2,)), ("within", 0, (2, 0), 1, (0, 1)))
        told, steps = verdict(scheme, book, ("settles", 0, (0,), (2,)))
        self.assertEqual(told, "follows")
        again = read_steps(write_steps(steps))
        self.assertEqual(again, steps)
        self.assertTrue(judge(scheme, book, ("settles", 0, (0,), (2,)), again))
        store = (((0, 1, 2), (0, 3, 4)), ())
        steps = clash(scheme, book, store)
        self.assertTrue(judge_clash(scheme, book, read_store(write_store(store)), read_steps(write_steps(steps))))

    def test_by_chance(self):
        chance = random.Random(83)
        for _ in range(300):
            steps = tuple(self.some_step(chance) for _ in range(chance.randint(0, 5)))
            self.both(steps, write_steps(steps))

    def some_step(self, chance):
        kind = chance.choice(("equal", "row", "put"))
        many = {"equal": 2, "row": chance.randint(0, 3), "put": 1}[kind]
        rows = tuple(tuple(chance.randint(-15, 15) for _ in range(chance.randint(1, 3))) for _ in range(many))
        return (kind, chance.randint(-3, 12)) + ((rows,) if kind == "row" else rows)


class SharingTest(unittest.TestCase):
    def test_arguments_stay_and_answers_are_the_same_again(self):
        for write, read, told in ((write_store, read_store, STORE), (write_steps, read_steps, STEPS)):
            kept = copy.deepcopy(told)
            text = write(told)
            self.assertEqual(write(told), text)
            self.assertEqual(told, kept)
            self.assertEqual(read(text), read(text))
            self.assertIsInstance(read(text), tuple)
            self.assertTrue(all(isinstance(one, tuple) for one in read(text)))
