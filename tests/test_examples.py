"""The examples of the document, e01 to e14, as they are written there, and those of README.md."""

import unittest

from loopstore.bars import barred
from loopstore.benches import Bench
from loopstore.clashes import clashes, safe
from loopstore.days import day
from loopstore.desk import Desk
from loopstore.doubling import doubling_table
from loopstore.knowing import ahead
from loopstore.lines import nexts, waits
from loopstore.longs import long_counts
from loopstore.lots import needed
from loopstore.meetings import is_meeting, meeting
from loopstore.rates import rate
from loopstore.search import greatest_table, rows_for, table_for
from loopstore.sizes import fewest, reach
from loopstore.stands import layings_out
from loopstore.stores import Store
from loopstore.tables import Table, entries

t = Table((1, 2), ((0,), (1,), (0, 1)))
u = Table((1, 2), ((0,), (1,), (1, 0)))
v = Table((1, 1, 3), ((1,), (0, 1), (2,), (0, 2), (1, 0, 2)))


class ExamplesTest(unittest.TestCase):
    def test_e01(self):
        self.assertEqual(waits(2, 1, (2, 2, 0, 1)), [0, 1, 1, None, 0])

    def test_e02(self):
        self.assertEqual(entries(t), [(0, 0, 1), (0, 0, 3), (1, 0, 2), (1, 1, 2)])

    def test_e03(self):
        self.assertEqual(clashes(t, 2), [])
        self.assertEqual(clashes(u, 2), [((1, 0, 2), (1, 0, 3))])

    def test_e04(self):
        self.assertIs(is_meeting(u, 2, ((2, 2, 2), 3, 5)), False)

    def test_e05(self):
        self.assertIs(doubling_table((1, 2)) == t, True)

    def test_e06(self):
        self.assertIs(safe(v, 2), True)
        self.assertEqual(reach((1, 1, 3)), 5)

    def test_e07(self):
        self.assertEqual(rows_for((1, 2), 3), [(0, 1), (1, 0)])

    def test_e08(self):
        self.assertEqual(greatest_table((1, 2), 2), 3)

    def test_e09(self):
        self.assertEqual(layings_out((1, 2), 2, 3, (0, 1), 1), [((2, 0),), ((2, 1),)])

    def test_e10(self):
        self.assertEqual(fewest(5), 3)

    def test_e11(self):
        self.assertEqual(nexts(2, 2, (1, 1)), [(0, 1), (1, 1), (2, 2)])

    def test_e12(self):
        self.assertEqual(rate(2, 1, ((0, 1), (0, 0)))[0], (1, 2))

    def test_e13(self):
        self.assertEqual(long_counts(2, 3, (((2,), 10 ** 30),)), (2 * 10 ** 30, 10 ** 30, 10 ** 30 - 3))

    def test_e14(self):
        self.assertEqual(needed((1, 2, 2), 2, 3), [(0, 1), (0, 2)])


class ReadmeTest(unittest.TestCase):
    def test_functions(self):
        self.assertIs(safe(t, 2), True)
        self.assertEqual(day(t, 2, (2, 2)), [(0, 1, 0), (1, 2, 0), (1, 3, 1)])
        self.assertEqual(meeting(u, 2), ((2, 2, 2), 4, 5))
        self.assertIs(safe(table_for((1, 1, 3), 2, 5), 2), True)
        self.assertEqual(barred((1, 2), 3, 3), (1, ((2, ((3, (1, 2)),)),)))
        self.assertEqual(reach((1, 2)), 3)
        self.assertIsNone(ahead((1, 2), 2, 4, (2, 2, 2, 2)))

    def test_store_and_bench(self):
        store = Store(t, 2)
        self.assertEqual(store.come(2), (0, ()))
        self.assertEqual(store.inside(), [(0, 1, 1)])
        self.assertEqual(store.trying(lambda trial: trial.come(1)), (1, ()))
        self.assertEqual(store.ticks(), 1)
        bench = Bench((1, 2), 2)
        bench.put((0,))
        bench.put((1, 0))
        self.assertEqual(bench.free_rows(2), [])
        bench.back()
        self.assertEqual(bench.kept_rows(), {1: (0,)})

    def test_desk(self):
        desk = Desk()
        self.assertEqual(desk.tell("doubling a 1,2"), "ok")
        self.assertEqual(desk.tell("show a"), "loops 1 2|1: 0|2: 1|3: 0 1|")
        self.assertEqual(desk.tell("table b loops 1 2|1: 0|2: 1|3: 1 0|"), "ok")
        self.assertEqual(desk.tell("meeting b 2"), "222")
        self.assertEqual(desk.tell("day a 2 22"), "0:1:0 1:2:0 1:3:1")
        self.assertEqual(desk.tell("undo"), "ok")
        self.assertEqual(desk.tell("names"), "a")


if __name__ == "__main__":
    unittest.main()
