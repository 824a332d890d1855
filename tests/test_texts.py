import random
import unittest

from common import LONGEST, T, U, V, assert_errors, odd_things, odd_tuples, random_comings, random_table
from loopstore.days import day
from loopstore.doubling import doubling_table
from loopstore.errors import BadTable, BadText, NoComings, NoDay
from loopstore.tables import Table
from loopstore.texts import comings_text, day_text, read_comings, read_day, read_table, table_text

T_TEXT = "loops 1 2\n1: 0\n2: 1\n3: 0 1\n"
NO_STRINGS = [thing for thing in odd_things() if not isinstance(thing, str)] + [[], (), 0, 1, ["loops 1"], b"loops 1\n1: 0\n"]
# Words that are no numbers, or have needless zeros, signs that are no figures, or too many figures.
NO_NUMERALS = ["", "00", "01", "-0", "-1", "+1", "1.0", "1_0", "a", "0x1", "1000000000", "0000000001", "1e1", "1\t", "l", "O", ":"]


def assert_bad(case, function, text, line):
    with case.subTest(text=repr(text)[:60]):
        with case.assertRaises(BadText) as caught:
            function(text)
        case.assertIs(type(caught.exception), BadText)
        case.assertEqual(caught.exception.line, line)


class TableTextTest(unittest.TestCase):
    def test_plain_tables(self):
        self.assertEqual(table_text(T), T_TEXT)
        self.assertEqual(table_text(U), "loops 1 2\n1: 0\n2: 1\n3: 1 0\n")
        self.assertEqual(table_text(V), "loops 1 1 3\n1: 1\n2: 0 1\n3: 2\n4: 0 2\n5: 1 0 2\n")
        self.assertEqual(table_text(Table((40, 1), ((1,),))), "loops 40 1\n1: 1\n")
        self.assertEqual(table_text(LONGEST).split("\n")[60], "60:" + " 0" * 60)

    def test_what_is_written_is_read(self):
        chance = random.Random(30)
        tables = [T, U, V, LONGEST, doubling_table((1, 2, 4, 8, 16, 29))]
        tables += [random_table(chance, (1, 2, 40, 7, 1, 10, 3, 5), chance.randint(1, 60)) for _ in range(50)]
        for table in tables:
            text = table_text(table)
            self.assertEqual(read_table(text), table)
            self.assertEqual(table_text(read_table(text)), text)
            self.assertEqual(len(text.split("\n")), table.bound + 2)


class ReadTableTest(unittest.TestCase):
    def test_no_string(self):
        for thing in NO_STRINGS:
            assert_bad(self, read_table, thing, 0)

    def test_something_is_lacking(self):
        for text, line in (("", 1), ("\n", 1), ("loops 1 2", 1), ("loops 1 2\n", 2), ("loops 1 2\n1: 0", 2), ("1: 0\n", 1),
                           ("loops", 1), ("l", 1), (" ", 1), (T_TEXT[:-1], 4), (T_TEXT + " ", 5), (T_TEXT + "4", 5),
                           (T_TEXT + "4: 0 1 0", 5), (T_TEXT + "\n", 5), (T_TEXT + "\n\n", 5), ("\n" + T_TEXT, 1),
                           ("loops 1 2\n\n1: 0\n", 2), (T_TEXT + "x\ny\n", 5)):
            assert_bad(self, read_table, text, line)

    def test_the_first_line(self):
        for first in ("loops", "loops ", " loops 1", "loops 1 ", "loops  1", "loops 1  2", "loops\t1", "loops 1\t2", "loops 1\t",
                      "Loops 1", "loop 1", "loops: 1", "loops,1", "loops 1,2", "loops1", "1 2", "1: 0", "0: 0", "", " ",
                      *["loops " + word for word in NO_NUMERALS], *["loops 1 " + word for word in NO_NUMERALS]):
            assert_bad(self, read_table, first + "\n1: 0\n", 1)
            # Later lines that are wrong, too, do not matter.
            assert_bad(self, read_table, first + "\nx\ny", 1)

    def test_lines_of_waits(self):
        for row in ("2:", "2: ", "2 1", "2 : 1", " 2: 1", "2: 1 ", "2:  1", "2: 0  0", "2:1", "2:\t1", "2: 1\t", "2;1", "02: 1",
                    "1: 1", "3: 1", "0: 1", "loops 1 2", "", " ", "2: 1:", ": 1", "2", "x: 1", "2.: 1", "2: 1,0", "-2: 1",
                    *["2: " + word for word in NO_NUMERALS], *["2: 0 " + word for word in NO_NUMERALS]):
            assert_bad(self, read_table, f"loops 1 2\n1: 0\n{row}\n3: 0 1\n", 3)
            assert_bad(self, read_table, f"loops 1 2\n1: 0\n{row}\nx", 3)

    def test_lines_in_another_order(self):
        assert_bad(self, read_table, "1: 0\nloops 1 2\n", 1)
        assert_bad(self, read_table, "loops 1 2\n2: 1\n1: 0\n", 2)
        assert_bad(self, read_table, "loops 1 2\n1: 0\n3: 0 1\n2: 1\n", 3)
        assert_bad(self, read_table, "loops 1 2\n1: 0\n1: 0\n2: 1\n", 3)
        assert_bad(self, read_table, "loops 1 2\n1: 0\nloops 1 2\n", 3)
        assert_bad(self, read_table, "loops 1 2\n0: 0\n1: 0\n", 2)

    def test_wrong_tables(self):
        for text, part, at in (
                ("loops 0\n1: 0\n", "loops", -1), ("loops 41\n1: 0\n", "loops", -1), ("loops 1 1 1 1 1 1 1 1 1\n1: 0\n", "loops", -1),
                ("loops 999999999\n1: 999999999\n", "loops", -1), ("loops 1 2\n1: 2\n", "rows", 0), ("loops 1 2\n1: 1\n", "rows", 0),
                ("loops 1 2\n1: 0\n2: 0 1\n", "rows", 1), ("loops 1\n1: 0\n2: 0 0\n3: 0 0 0 0\n", "rows", 2),
                ("loops 1 2\n1: 999999999\n", "rows", 0),
                ("loops 1\n" + "".join(f"{wait}:{' 0' * wait}\n" for wait in range(1, 62)), "rows", -1)):
            with self.subTest(text=text[:40]):
                with self.assertRaises(BadTable) as caught:
                    read_table(text)
                self.assertEqual((caught.exception.part, caught.exception.at), (part, at))

    def test_a_wrong_table_is_told_only_if_all_lines_are_right(self):
        assert_bad(self, read_table, "loops 0\n1: 0\n2: 00\n", 3)
        assert_bad(self, read_table, "loops 0\n1: 0\n2: 0", 3)
        assert_bad(self, read_table, "loops 0\n", 2)
        assert_bad(self, read_table, "loops 0\n1: 0\nx\n", 3)
        self.assertEqual(read_table("loops 1\n" + "".join(f"{wait}:{' 0' * wait}\n" for wait in range(1, 61))), LONGEST)


class ComingsTextTest(unittest.TestCase):
    def test_plain_comings(self):
        self.assertEqual(comings_text(()), "")
        self.assertEqual(comings_text((0, 1, 2, 3, 4)), "01234")
        self.assertEqual(comings_text((4,) * 400), "4" * 400)
        self.assertEqual(read_comings(""), ())
        self.assertEqual(read_comings("40320"), (4, 0, 3, 2, 0))
        self.assertEqual(read_comings("0" * 400), (0,) * 400)
        self.assertEqual({type(number) for number in read_comings("01234")}, {int})

    def test_what_is_written_is_read(self):
        chance = random.Random(31)
        for _ in range(100):
            comings = random_comings(chance, 4, chance.randint(0, 400))
            self.assertEqual(read_comings(comings_text(comings)), comings)

    def test_wrong_comings(self):
        assert_errors(self, comings_text, ((4, 0),), [
            (0, NoComings, [thing for thing in odd_tuples() if thing != ()] + [(0,) * 401, (5,), (-1,), (1, True), [1, 1], 12])])

    def test_wrong_texts(self):
        for thing in NO_STRINGS:
            assert_bad(self, read_comings, thing, 0)
        for text in ("5", "0 1", " ", "01\n", "\n", "-", "0,1", "-1", "a", "0" * 401, "1\t", "9", "0125", "1" * 10000, "0\n1"):
            assert_bad(self, read_comings, text, 1)


class DayTextTest(unittest.TestCase):
    def test_plain_days(self):
        self.assertEqual(day_text([]), "")
        self.assertEqual(day_text(()), "")
        self.assertEqual(day_text([(0, 1, 0), (1, 12, 0)]), "0 1 0\n1 12 0\n")
        self.assertEqual(day_text(((5, 4, 3), (2, 1, 0))), "5 4 3\n2 1 0\n")
        self.assertEqual(read_day(""), ())
        self.assertEqual(read_day("0 1 0\n1 12 0\n"), ((0, 1, 0), (1, 12, 0)))
        # In the order of the lines, and whatever loops or letters there are.
        self.assertEqual(read_day("5 4 999999999\n5 4 999999999\n2 1 0\n"), ((5, 4, 999999999), (5, 4, 999999999), (2, 1, 0)))

    def test_numbers_with_more_than_nine_figures(self):
        self.assertEqual(day_text([(10 ** 59, 0, 1000000000)]), f"1{'0' * 59} 0 1000000000\n")
        assert_bad(self, read_day, day_text([(0, 0, 0), (10 ** 9, 0, 0)]), 2)
        self.assertEqual(read_day(day_text([(10 ** 9 - 1, 0, 0)])), ((10 ** 9 - 1, 0, 0),))

    def test_what_is_written_is_read(self):
        chance = random.Random(32)
        for table in (T, V, doubling_table((1, 2, 4, 8, 16, 29))):
            for _ in range(20):
                told = day(table, 2, random_comings(chance, 2, 40))
                self.assertEqual(read_day(day_text(told)), tuple(told))
                self.assertEqual(day_text(tuple(told)), day_text(told))

    def test_wrong_days(self):
        right = (0, 1, 0)
        wrong = [thing for thing in odd_tuples() if thing not in ((), [])] + [
            right, [right, None], (right, [0, 1, 0]), [[0, 1, 0]], ((0, 1),), ((0, 1, 0, 0),), ((0, 1, -1),), ((-1, 1, 0),),
            ((0, -1, 0),), ((0, True, 0),), ((False, 1, 0),), ((0, 1, "0"),), ((0, 1, None),), {right: right}, "0 1 0\n", [()],
            ((0, 1, (0,)),), (right, right, 1), ((0, 1, -(10 ** 59)),)]
        assert_errors(self, day_text, ([(0, 1, 0)],), [(0, NoDay, wrong)])
        made = [(0, 1, 0)]
        day_text(made)
        self.assertEqual(made, [(0, 1, 0)])

    def test_wrong_texts(self):
        for thing in NO_STRINGS:
            assert_bad(self, read_day, thing, 0)
        for row in ("", " ", "0 1", "0", "0 1 0 0", "0 1 0 ", " 0 1 0", "0  1 0", "0 1  0", "0\t1\t0", "0 1 0\t", "0:1:0", "0,1,0",
                    *[f"0 1 {word}" for word in NO_NUMERALS], *[f"{word} 1 0" for word in NO_NUMERALS],
                    *[f"0 {word} 0" for word in NO_NUMERALS]):
            assert_bad(self, read_day, row + "\n", 1)
            assert_bad(self, read_day, f"0 1 0\n{row}\n2 1 0\n", 2)
            assert_bad(self, read_day, f"0 1 0\n{row}\nx", 2)
        for text, line in (("0 1 0", 1), ("0 1 0\n1 1 1", 2), ("0 1 0\n ", 2), ("\n", 1), ("0 1 0\n\n", 2), ("x", 1), (" ", 1)):
            assert_bad(self, read_day, text, line)


if __name__ == "__main__":
    unittest.main()
