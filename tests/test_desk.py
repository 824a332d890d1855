import random
import unittest

from common import T, U, V, odd_things, random_comings, random_table
from loopstore.days import day
from loopstore.desk import Desk
from loopstore.doubling import doubling_table
from loopstore.errors import (
    BadTable, BadText, LoopError, Meet, NoBound, NoComers, NoComings, NoLine, NoLoop, NoLoops, NoName, NotDoubling,
    NothingDone, TooMany)
from loopstore.games import greatest_kept
from loopstore.meetings import is_meeting, meeting
from loopstore.rates import share
from loopstore.search import greatest_table
from loopstore.sizes import fewest, reach
from loopstore.tables import Table
from loopstore.texts import table_text

T_TEXT = "loops 1 2|1: 0|2: 1|3: 0 1|"
U_TEXT = "loops 1 2|1: 0|2: 1|3: 1 0|"


def as_text(table):
    return table_text(table).replace("\n", "|")


def seen(desk):
    """All that a desk keeps, and all that it takes back, by an equal desk of its own."""
    return [desk.tell("names"), desk.undoable()] + [
        desk.tell("show " + name) for name in desk.tell("names").split(" ") if desk.tell("names") != "none"]


def filled():
    desk = Desk()
    for line in ("table t " + T_TEXT, "table u " + U_TEXT, "doubling d 1,2,4"):
        desk.tell(line)
    return desk


class DeskCase(unittest.TestCase):
    def assert_tells(self, desk, *told):
        for line, answer in told:
            with self.subTest(line[:40]):
                self.assertEqual(desk.tell(line), answer)
                self.assertIs(type(desk.tell("names")), str)

    def assert_raises(self, desk, error, told, **fields):
        before = seen(desk)
        with self.subTest(repr(told)[:60]):
            with self.assertRaises(error) as caught:
                desk.tell(told)
            self.assertIs(type(caught.exception), error)
            self.assertEqual(vars(caught.exception), fields)
            self.assertEqual(seen(desk), before)


class FormsTest(DeskCase):
    def test_a_plain_session(self):
        self.assert_tells(
            Desk(), ("names", "none"), ("table t " + T_TEXT, "ok"), ("names", "t"), ("show t", T_TEXT), ("safe t 2", "safe"),
            ("safe t 3", "clash"), ("meeting t 2", "none"), ("day t 2 22", "0:1:0 1:2:0 1:3:1"), ("day t 2 -", "none"),
            ("day t 2 1101", "none"), ("doubling d 1,2", "ok"), ("show d", T_TEXT), ("names", "d t"), ("table u " + U_TEXT, "ok"),
            ("safe u 2", "clash"), ("meeting u 2", "222"), ("names", "d t u"), ("drop t", "ok"), ("names", "d u"),
            ("reach 1,1,3", "5"), ("kept 1,2 2", "3"), ("tables 1,2 2", "3"), ("fewest 5", "3"), ("undo", "ok"),
            ("names", "d t u"), ("show t", T_TEXT))

    def test_table_show_and_names(self):
        chance = random.Random(33)
        desk = Desk()
        tables = {}
        for _ in range(40):
            name = "".join(chance.choice("abz") for _ in range(chance.randint(1, 8)))
            tables[name] = random_table(chance, (1, 2, 40, 7), chance.randint(1, 20))
            self.assertEqual(desk.tell(f"table {name} {as_text(tables[name])}"), "ok")
            self.assertEqual(desk.tell("names"), " ".join(sorted(tables)))
            for one in tables:
                self.assertEqual(desk.tell("show " + one), as_text(tables[one]))
        self.assertEqual(desk.undoable(), 40)

    def test_a_table_in_the_place_of_an_elder_one(self):
        desk = filled()
        self.assert_tells(desk, ("table t " + U_TEXT, "ok"), ("show t", U_TEXT), ("names", "d t u"), ("doubling t 1", "ok"),
                          ("show t", "loops 1|1: 0|"), ("show u", U_TEXT))

    def test_doubling(self):
        for loops in ((1,), (1, 2, 4, 8, 16, 29), (3, 2, 1), (1, 1, 1, 1, 1, 1, 1, 1)):
            desk = Desk()
            self.assertEqual(desk.tell("doubling d " + ",".join(str(length) for length in loops)), "ok")
            self.assertEqual(desk.tell("show d"), as_text(doubling_table(loops)))

    def test_names_of_all_lengths(self):
        desk = Desk()
        for name in ("a", "z", "abcdefgh", "zzzzzzzz", "table", "names", "undo"):
            self.assert_tells(desk, (f"table {name} {T_TEXT}", "ok"), ("show " + name, T_TEXT), ("safe " + name + " 4", "clash"))
        for name in ("", "abcdefghi", "A", "aB", "a1", "1", "12", "a_", "a-b", "-", "|", "a|", "a\tb", "a.b", "`", "{"):
            for line in ("table {} " + T_TEXT, "doubling {} 1,2", "drop {}", "show {}", "safe {} 2", "meeting {} 2",
                         "day {} 2 22", "share {} 2 0"):
                self.assert_raises(desk, NoLine, line.replace("{}", name))

    def test_safe_and_meeting(self):
        chance = random.Random(34)
        seen_answers = {"safe": 0, "clash": 0}
        for _ in range(60):
            table = chance.choice([T, U, V, random_table(chance, (1, 2, 1), 4)])
            comers = chance.choice([2, 3, 4])
            desk = Desk()
            desk.tell("table a " + as_text(table))
            answer = desk.tell(f"safe a {comers}")
            found = desk.tell(f"meeting a {comers}")
            seen_answers[answer] += 1
            self.assertEqual(found == "none", answer == "safe")
            self.assertEqual(answer == "safe", meeting(table, comers) is None)
            if found != "none":
                comings = tuple(int(sign) for sign in found)
                letters = range(sum(comings))
                self.assertTrue(any(is_meeting(table, comers, (comings, one, other)) for one in letters for other in letters))
                self.assert_meets(desk, comers, found)
        self.assertGreater(min(seen_answers.values()), 5)

    def assert_meets(self, desk, comers, found):
        with self.assertRaises(Meet):
            desk.tell(f"day a {comers} {found}")

    def test_day(self):
        chance = random.Random(35)
        for table in (T, V):
            desk = Desk()
            desk.tell("table a " + as_text(table))
            for _ in range(20):
                comings = random_comings(chance, 2, chance.randint(0, 30))
                word = "".join(str(number) for number in comings) or "-"
                layings = day(table, 2, comings)
                expected = " ".join(f"{tick}:{letter}:{loop}" for tick, letter, loop in layings) or "none"
                self.assertEqual(desk.tell(f"day a 2 {word}"), expected)
        # Figures may begin with noughts.
        self.assertEqual(desk.tell("day a 2 002"), "2:1:1")
        self.assertEqual(desk.tell("day a 2 " + "0" * 400), "none")
        self.assertEqual(desk.tell("day a 4 1111"), "none")

    def test_share(self):
        for name, table in (("t", T), ("u", U), ("d", doubling_table((1, 2, 4)))):
            for comers in (2, 3, 4):
                for loop in range(len(table.loops)):
                    top, bottom = share(table, comers, loop)[0]
                    self.assertEqual(filled().tell(f"share {name} {comers} {loop}"), f"{top}/{bottom}")
        desk = Desk()
        desk.tell("table a loops 1 2|1: 0|")
        self.assertEqual(desk.tell("share a 2 1"), "0/1")

    def test_numbers(self):
        desk = Desk()
        for loops in ((1,), (1, 2), (2, 1), (1, 1, 3), (2, 3), (1, 2, 4, 8, 16, 32, 40, 40)):
            word = ",".join(str(length) for length in loops)
            self.assertEqual(desk.tell("reach " + word), str(reach(loops)))
            if len(loops) < 4:
                for comers in (2, 3, 4):
                    self.assertEqual(desk.tell(f"kept {word} {comers}"), str(greatest_kept(loops, comers)))
                    self.assertEqual(desk.tell(f"tables {word} {comers}"), str(greatest_table(loops, comers)))
        for bound in (1, 2, 3, 4, 59, 60):
            self.assertEqual(desk.tell(f"fewest {bound}"), str(fewest(bound)))
        self.assertEqual(desk.undoable(), 0)


class UndoTest(DeskCase):
    def test_table_doubling_and_drop(self):
        desk = Desk()
        steps = []
        for line in ("table a " + T_TEXT, "table a " + U_TEXT, "doubling b 1", "drop a", "doubling a 1,1", "doubling b 1,2",
                     "drop b", "drop a", "table b " + U_TEXT):
            steps.append(seen(desk))
            self.assertEqual(desk.tell(line), "ok")
            self.assertEqual(desk.undoable(), len(steps))
            # What only asks is not taken back.
            for asked in ("names", "fewest 3", "reach 1"):
                desk.tell(asked)
        while steps:
            self.assertEqual(desk.undoable(), len(steps))
            self.assertEqual(desk.tell("undo"), "ok")
            self.assertEqual(seen(desk), steps.pop())
        for _ in range(2):
            self.assert_raises(desk, NothingDone, "undo")
        self.assertEqual((desk.undoable(), desk.tell("names")), (0, "none"))

    def test_what_was_taken_back_is_not_taken_back_again(self):
        desk = filled()
        self.assert_tells(desk, ("undo", "ok"), ("table x " + U_TEXT, "ok"), ("undo", "ok"), ("names", "t u"), ("undo", "ok"),
                          ("names", "t"), ("undo", "ok"), ("names", "none"))
        self.assert_raises(desk, NothingDone, "undo")

    def test_lines_that_raise_are_not_taken_back(self):
        desk = filled()
        for line in ("table t loops", "table t loops 1|1: 1|", "doubling t 2", "doubling t 0", "drop x", "nothing", "safe t 1",
                     "day u 2 222"):
            with self.assertRaises(LoopError):
                desk.tell(line)
        self.assertEqual(desk.undoable(), 3)
        self.assert_tells(desk, ("undo", "ok"), ("names", "t u"))

    def test_two_desks_go_apart(self):
        one, other = filled(), Desk()
        self.assertEqual(other.tell("names"), "none")
        other.tell("table t " + U_TEXT)
        self.assertEqual((one.tell("show t"), other.tell("show t")), (T_TEXT, U_TEXT))
        self.assertEqual((one.undoable(), other.undoable()), (3, 1))
        one.tell("undo")
        self.assertEqual(other.undoable(), 1)
        self.assertNotEqual(one, other)
        self.assertEqual(one, one)


class NoLineTest(DeskCase):
    def test_no_strings(self):
        desk = filled()
        for thing in [thing for thing in odd_things() if not isinstance(thing, str)] + [
                [], (), 0, ["names"], ("names",), b"names", {"names": "names"}]:
            self.assert_raises(desk, NoLine, thing)

    def test_line_feeds(self):
        desk = filled()
        for line in ("names", "undo", "show t", "fewest 5", "table t " + T_TEXT):
            for wrong in (line + "\n", "\n" + line, line.replace(" ", "\n", 1) + "\n"):
                self.assert_raises(desk, NoLine, wrong)
        self.assert_raises(desk, NoLine, "table t " + T_TEXT.replace("|", "\n"))

    def test_words(self):
        desk = filled()
        for line in ("", " ", "name", "Names", "NAMES", "undo it", "nothing", "tables", "table", "doubling", "drop", "show", "safe",
                     "meeting", "day", "share", "reach", "kept", "fewest", "2", "t", "-", "|", "help", "names,", "undo."):
            self.assert_raises(desk, NoLine, line)

    def test_too_few_and_too_many_words_and_blanks(self):
        desk = filled()
        for line in ("doubling d 1,2", "drop t", "names", "undo", "show t", "safe t 2", "meeting t 2", "day t 2 22",
                     "share t 2 0", "reach 1,2", "kept 1,2 2", "tables 1,2 2", "fewest 5"):
            for wrong in (line + " ", " " + line, line + " 2", line + " t", line.rpartition(" ")[0], line + "\t", "\t" + line):
                self.assert_raises(desk, NoLine, wrong)
            if " " in line:
                for between in ("  ", "\t", "", ",", " , ", "|"):
                    self.assert_raises(desk, NoLine, line.replace(" ", between, 1))
                    self.assert_raises(desk, NoLine, between.join(line.rsplit(" ", 1)))
            filled().tell(line)
        # Behind the blank behind the name of a table there stands a sign or more.
        for line in ("table", "table ", "table t", "table t ", "table  t " + T_TEXT, " table t " + T_TEXT, "table\tt " + T_TEXT):
            self.assert_raises(desk, NoLine, line)

    def test_numbers(self):
        desk = filled()
        wrong = ["", "01", "00", "-1", "+1", "1.0", "a", "1000000000", "0x1", "1_0", "-", "1e1", "012345678", "1 ", "1,", ",1"]
        for word in wrong:
            self.assert_raises(desk, NoLine, "fewest " + word)
            self.assert_raises(desk, NoLine, "share t 2 " + word)
            self.assert_raises(desk, NoLine, "reach " + word)
            for line in ("reach {},1", "reach 1,{}", "doubling x {},2", "doubling x 1,{}", "kept 1,{} 2", "tables {},1 2"):
                self.assert_raises(desk, NoLine, line.replace("{}", word))
        for line in ("reach 1,,2", "reach 1,2,", "reach ,1", "reach 1;2", "reach 1, 2", "reach ,", "reach 1.2", "kept  2", "kept 2",
                     "tables 2", "fewest 1,2", "share t 2 0,1", "fewest"):
            self.assert_raises(desk, NoLine, line)

    def test_comers_are_one_figure(self):
        desk = filled()
        for word in ("", "02", "22", "10", "-2", "+2", "a", "2.", "two", "-", ",", "|"):
            for line in ("safe t {}", "meeting t {}", "day t {} 22", "share t {} 0", "kept 1,2 {}", "tables 1,2 {}"):
                self.assert_raises(desk, NoLine, line.replace("{}", word))

    def test_comings(self):
        desk = filled()
        for word in ("", "--", "-2", "2-", "a", "2,2", "2.2", "2|2", "+", "none", "2a", "()", "2\t"):
            self.assert_raises(desk, NoLine, "day t 2 " + word)
        self.assert_raises(desk, NoLine, "day t 2 2 2")


class LaterErrorsTest(DeskCase):
    def test_bad_texts(self):
        desk = filled()
        for text, line in (("l", 1), ("|", 1), ("loops 1", 1), ("loops 1|", 2), ("loops 1|1: 0", 2), (T_TEXT[:-1], 4), (T_TEXT + "|", 5),
                           (" " + T_TEXT, 1), (T_TEXT + " ", 5), ("loops 01|1: 0|", 1), ("loops 1|2: 0|", 2), ("loops  1|1: 0|", 1),
                           ("loops 1|1: 0 |", 2), ("loops 0|1: 00|", 2), ("loops 1||1: 0|", 2), ("x y", 1), ("\t", 1), (" ", 1)):
            for name in ("t", "x"):
                self.assert_raises(desk, BadText, f"table {name} {text}", line=line)

    def test_bad_tables(self):
        desk = filled()
        for text, part, at in (("loops 0|1: 0|", "loops", -1), ("loops 1|1: 1|", "rows", 0), ("loops 1 2|1: 0|2: 0 1|", "rows", 1),
                               ("loops 1|" + "".join(f"{wait}:{' 0' * wait}|" for wait in range(1, 62)), "rows", -1)):
            for name in ("t", "x"):
                self.assert_raises(desk, BadTable, f"table {name} {text}", part=part, at=at)

    def test_names_of_which_there_is_no_table(self):
        desk = filled()
        for name in ("x", "tt", "abcdefgh"):
            for line in ("drop {}", "show {}", "safe {} 2", "meeting {} 2", "day {} 2 22", "share {} 2 0",
                         # It goes ahead of what the functions raise.
                         "safe {} 0", "meeting {} 9", "day {} 1 9", "day {} 2 9", "share {} 1 9", "share {} 2 999999999"):
                self.assert_raises(desk, NoName, line.replace("{}", name), name=name)
        self.assert_raises(Desk(), NoName, "drop t", name="t")
        desk.tell("drop t")
        for line in ("drop t", "show t"):
            self.assert_raises(desk, NoName, line, name="t")

    def test_what_the_functions_raise(self):
        desk = filled()
        for figure in "015679":
            for line in ("safe t {}", "meeting t {}", "day t {} 22", "day t {} 9", "share t {} 0", "share t {} 9", "kept 1,2 {}",
                         "tables 1,2 {}", "tables 1,2,3,4,5,6,7 {}"):
                self.assert_raises(desk, NoComers, line.replace("{}", figure))
        for word in ("3", "9", "12345", "0" * 401, "0" * 2000):
            self.assert_raises(desk, NoComings, "day t 2 " + word)
        self.assert_raises(desk, Meet, "day u 2 222", tick=2, loop=1)
        for number in ("2", "8", "999999999"):
            self.assert_raises(desk, NoLoop, "share t 2 " + number)
        for word in ("0", "41", "1,0", "1,41", "999999999", "1,1,1,1,1,1,1,1,1"):
            for line in ("reach {}", "kept {} 2", "kept {} 9", "tables {} 2", "tables {} 0", "doubling x {}", "doubling t {}"):
                self.assert_raises(desk, NoLoops, line.replace("{}", word))
        for word in ("2", "1,3", "2,4", "1,1,3,3,7"):
            self.assert_raises(desk, NotDoubling, "doubling t " + word)
        self.assert_raises(desk, TooMany, "doubling t 1,2,4,8,16,30", most=60)
        self.assert_raises(desk, TooMany, "doubling x 1,2,4,8,16,32,40,40", most=60)
        self.assert_raises(desk, TooMany, "tables 1,2,3,4,5,6,7 2", most=6)
        self.assert_raises(desk, TooMany, "kept 1,1,2,2,3,3,3 2", most=2000)
        for number in ("0", "61", "999999999"):
            self.assert_raises(desk, NoBound, "fewest " + number)
        self.assertEqual(desk.undoable(), 3)


if __name__ == "__main__":
    unittest.main()
