import random
import unittest

from common import LONGEST, T, U, V, odd_numbers, random_table
from loopstore.clashes import clashes, safe
from loopstore.errors import NoComers
from loopstore.tables import Table, entries


def clashes_by_definition(table, comers):
    found = []
    for loop, gone, left in entries(table):
        for same, other, more in entries(table):
            if loop == same and left < more and gone >= other and more - left <= comers * (gone - other) + comers - 1:
                found.append(((loop, gone, left), (same, other, more)))
    return sorted(found)


def many_tables():
    chance = random.Random(8)
    loops = [(1,), (1, 2), (2, 1), (1, 2, 4), (1, 1, 3), (1, 1, 2, 3), (1, 2, 4, 8), (1, 1, 2, 2, 3, 3, 5, 40)]
    tables = [random_table(chance, chance.choice(loops), chance.choice([1, 2, 3, 4, 5, 7, 15])) for _ in range(150)]
    return [T, U, V] + tables + [random_table(chance, (1, 2, 4, 8, 16, 32), 60)]


class ClashesTest(unittest.TestCase):
    def test_examples(self):
        self.assertEqual(clashes(T, 2), [])
        self.assertEqual(clashes(U, 2), [((1, 0, 2), (1, 0, 3))])
        self.assertIs(safe(T, 2), True)
        self.assertIs(safe(U, 2), False)
        self.assertIs(safe(V, 2), True)

    def test_edges_of_the_definition(self):
        # A row with a loop twice: the second entry is one tick behind and its letter may be one place behind, too.
        table = Table((1,), ((0,), (0, 0)))
        self.assertEqual(clashes(table, 2), [((0, 0, 1), (0, 0, 2)), ((0, 1, 1), (0, 0, 2))])
        # Letters two places apart enter one loop at their coming: they can come at one tick just from 3 comers on.
        table = Table((1, 2, 2, 4), ((0,), (1,), (0, 2), (1, 2)))
        self.assertEqual(clashes(table, 2), [])
        self.assertEqual(clashes(table, 3), [((0, 0, 1), (0, 0, 3)), ((1, 0, 2), (1, 0, 4))])

    def test_comers_let_more_clash(self):
        table = Table((1, 2, 3), ((0,), (1,), (2,), (0, 2)))
        self.assertEqual([len(clashes(table, comers)) for comers in (2, 3, 4)], [0, 0, 1])
        self.assertEqual(clashes(table, 4), [((0, 0, 1), (0, 0, 4))])
        self.assertEqual([safe(table, comers) for comers in (2, 3, 4)], [True, True, False])

    def test_many_tables_by_the_definition(self):
        kept = {True: 0, False: 0}
        for table in many_tables():
            for comers in (2, 3, 4):
                told = clashes(table, comers)
                self.assertEqual(told, clashes_by_definition(table, comers))
                self.assertIs(safe(table, comers), told == [])
                kept[told == []] += 1
        self.assertGreater(min(kept.values()), 20)

    def test_the_longest_rows(self):
        self.assertIs(safe(LONGEST, 2), False)
        told = clashes(LONGEST, 2)
        self.assertEqual(told[0], ((0, 0, 1), (0, 0, 2)))
        self.assertEqual(told, sorted(told))
        doubled = Table((1, 2, 4, 8, 16, 32), tuple(
            tuple(loop for loop in range(6) if wait >> loop & 1) for wait in range(1, 61)))
        self.assertEqual(clashes(doubled, 2), [])
        self.assertIs(safe(doubled, 2), True)

    def test_wrong_comers(self):
        for thing in odd_numbers() + [0, 1, 5]:
            with self.subTest(thing=repr(thing)[:40]):
                self.assertRaises(NoComers, clashes, T, thing)
                self.assertRaises(NoComers, safe, T, thing)

    def test_each_list_is_new_and_no_table_is_changed(self):
        clashes(U, 2).clear()
        self.assertEqual(clashes(U, 2), [((1, 0, 2), (1, 0, 3))])
        self.assertEqual(U, Table((1, 2), ((0,), (1,), (1, 0))))


if __name__ == "__main__":
    unittest.main()
