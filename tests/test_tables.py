import random
import unittest
from unittest import mock

from common import LONGEST, T, U, V, odd_things, odd_tuples, random_table
from loopstore.errors import BadTable
from loopstore.tables import Table, entries


class TableTest(unittest.TestCase):
    def check_bad(self, loops, rows, part, at):
        with self.assertRaises(BadTable) as caught:
            Table(loops, rows)
        self.assertEqual((caught.exception.part, caught.exception.at), (part, at))

    def test_attributes(self):
        self.assertEqual((T.loops, T.rows, T.bound), ((1, 2), ((0,), (1,), (0, 1)), 3))
        self.assertEqual((V.loops, V.bound), ((1, 1, 3), 5))
        self.assertEqual(vars(T), {"loops": (1, 2), "rows": ((0,), (1,), (0, 1)), "bound": 3})

    def test_limits_that_are_kept(self):
        self.assertEqual(Table((1,), ((0,),)).bound, 1)
        self.assertEqual(Table((1,) * 8, ((7,),)).rows, ((7,),))
        self.assertEqual(Table((40, 1, 40, 7, 1, 2, 3, 40), ((4,), (1, 4))).bound, 2)
        self.assertEqual(LONGEST.bound, 60)
        self.assertEqual(LONGEST.rows[59], (0,) * 60)
        self.assertEqual(Table((1, 40), tuple((0,) * many for many in range(1, 40)) + ((1,),)).rows[39], (1,))

    def test_a_loop_may_stand_several_times_in_a_row(self):
        self.assertEqual(Table((2, 1), ((1,), (1, 1), (1, 1, 1), (0, 0))).bound, 4)

    def test_wrong_loops(self):
        wrong = [thing for thing in odd_tuples() if thing != ()] + [
            (), (1,) * 9, (0,), (41,), (1, 41), (-1,), [1, 2], (1, True), (1, [2]), (1, None), (True,), "12", b"\x01\x02",
        ]
        for thing in wrong:
            with self.subTest(thing=repr(thing)[:40]):
                self.check_bad(thing, ((0,),), "loops", -1)
                self.check_bad(thing, None, "loops", -1)

    def test_rows_that_are_no_tuple_or_of_a_wrong_number(self):
        wrong = [thing for thing in odd_things() if not isinstance(thing, tuple)]
        wrong += [[], (), [(0,)], [[0]], 1, "0", {(0,): 1}, LONGEST.rows + (LONGEST.rows[0],), ((0,),) * 61, (None,) * 9999]
        for thing in wrong:
            with self.subTest(thing=repr(thing)[:40]):
                self.check_bad((1,), thing, "rows", -1)

    def test_the_first_row_that_is_none(self):
        wrong = odd_things() + [[0], [], (), 0, (1,), (-1,), (True,), (False,), (None,), ((0,),), ([0],), (0, 0), ("0",), "0"]
        for thing in wrong:
            with self.subTest(thing=repr(thing)[:40]):
                self.check_bad((1,), (thing,), "rows", 0)
                self.check_bad((1,), (thing, None), "rows", 0)
                if thing != (0, 0):
                    self.check_bad((1,), ((0,), thing, None), "rows", 1)
                self.check_bad((1,), LONGEST.rows[:59] + (thing,), "rows", 59)

    def test_a_row_at_another_place_than_that_of_its_sum(self):
        self.check_bad((1, 2), ((1,), (0,)), "rows", 0)
        self.check_bad((1, 2), ((0,), (0, 1)), "rows", 1)
        self.check_bad((1, 2), ((0,), (1,), (1,), (0,)), "rows", 2)
        self.check_bad((1, 2), ((0,), ()), "rows", 1)
        self.check_bad((1, 40), ((1,),), "rows", 0)
        self.check_bad((1,), LONGEST.rows[:59] + ((0,) * 61,), "rows", 59)
        self.check_bad((1, 2), ((0,), (2,)), "rows", 1)
        self.check_bad((1, 2), ((0,), (-1,)), "rows", 1)

    def test_equal_just_if_loops_and_rows_are(self):
        again = Table(tuple([1, 2]), tuple([(0,), (1,), tuple([0, 1])]))
        self.assertTrue(T == again)
        self.assertFalse(T != again)
        self.assertFalse(T == U)
        self.assertTrue(T != U)
        self.assertFalse(T == Table((1, 2), ((0,), (1,))))
        self.assertFalse(Table((1, 2), ((0,),)) == Table((1, 3), ((0,),)))
        self.assertFalse(Table((1, 2), ((0,),)) == Table((1, 2, 2), ((0,),)))

    def test_equal_to_nothing_of_another_sort(self):
        for thing in odd_things() + [(T.loops, T.rows), [T], mock.ANY]:
            if thing is not T:
                with self.subTest(thing=repr(thing)[:40]):
                    self.assertFalse(T == thing)
        self.assertFalse(U == T)

    def test_no_table_is_changed_by_its_use(self):
        loops, rows = (1, 2), ((0,), (1,), (0, 1))
        table = Table(loops, rows)
        entries(table).clear()
        self.assertEqual((table.loops, table.rows, table.bound), ((1, 2), ((0,), (1,), (0, 1)), 3))
        self.assertEqual((loops, rows), ((1, 2), ((0,), (1,), (0, 1))))


class EntriesTest(unittest.TestCase):
    def test_examples(self):
        self.assertEqual(entries(T), [(0, 0, 1), (0, 0, 3), (1, 0, 2), (1, 1, 2)])
        self.assertEqual(entries(U), [(0, 0, 1), (0, 2, 1), (1, 0, 2), (1, 0, 3)])
        self.assertEqual(entries(Table((1,), ((0,), (0, 0)))), [(0, 0, 1), (0, 0, 2), (0, 1, 1)])

    def test_all_items_of_many_tables(self):
        chance = random.Random(5)
        loops = [(1,), (1, 2), (1, 2, 4), (3, 1, 1), (1, 1, 2, 2, 3, 5, 8, 40)]
        for table in [LONGEST] + [random_table(chance, chance.choice(loops), chance.choice([1, 5, 60])) for _ in range(60)]:
            found = set()
            for wait, row in enumerate(table.rows, 1):
                for at, loop in enumerate(row):
                    gone = sum(table.loops[other] for other in row[:at])
                    found.add((loop, gone, wait - gone))
            told = entries(table)
            self.assertEqual(told, sorted(found))
            self.assertIs(type(told), list)

    def test_each_list_is_new(self):
        entries(T).append(None)
        self.assertEqual(entries(T), [(0, 0, 1), (0, 0, 3), (1, 0, 2), (1, 1, 2)])


if __name__ == "__main__":
    unittest.main()
