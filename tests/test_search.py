import itertools
import random
import unittest

from common import (
    T, V, assert_errors, assert_too_many, odd_numbers, odd_things, odd_tuples, wrong_bounds, wrong_comers, wrong_loops)
from loopstore.clashes import safe
from loopstore.doubling import doubling_table
from loopstore.errors import NoBound, NoComers, NoLoops, NoRow, NoTold, NoWait
from loopstore.search import completed, count_tables, friends, greatest_table, rows_for, table_for
from loopstore.sizes import reach
from loopstore.tables import Table

SEVEN = (1, 2, 3, 4, 5, 6, 7)
WRONG_ROWS = [thing for thing in odd_tuples() if thing != ()] + [(2,), (-1,), (0, True), [0], (0,) * 61, (0, (1,))]


def rows_by_definition(loops, wait):
    found = []
    for many in range(1, len(loops) + 1):
        for row in itertools.permutations(range(len(loops)), many):
            if sum(loops[loop] for loop in row) == wait:
                found.append(row)
    return sorted(found)


def row_entries(loops, row):
    gone = [sum(loops[loop] for loop in row[:at]) for at in range(len(row) + 1)]
    return [(loop, gone[at], gone[-1] - gone[at]) for at, loop in enumerate(row)]


def friends_by_definition(loops, comers, row, other):
    for loop, gone, left in row_entries(loops, row) + row_entries(loops, other):
        for same, later, more in row_entries(loops, row) + row_entries(loops, other):
            if loop == same and left < more and gone >= later and more - left <= comers * (gone - later) + comers - 1:
                return False
    return True


def all_safe_tables(loops, comers, bound):
    every = itertools.product(*[rows_by_definition(loops, wait) for wait in range(1, bound + 1)])
    return [rows for rows in every if safe(Table(loops, rows), comers)]


class RowsForTest(unittest.TestCase):
    def test_plain_waits(self):
        self.assertEqual(rows_for((1, 2), 3), [(0, 1), (1, 0)])
        self.assertEqual(rows_for((1, 2), 4), [])
        self.assertEqual(rows_for((1, 1, 2), 2), [(0, 1), (1, 0), (2,)])
        self.assertEqual(rows_for((40,), 40), [(0,)])
        self.assertEqual(rows_for((2,), 1), [])
        self.assertEqual(rows_for((2, 1), 1), [(1,)])

    def test_all_small_loops(self):
        for many in (1, 2, 3, 4):
            for loops in itertools.product(range(1, 4), repeat=many):
                for wait in range(1, sum(loops) + 2):
                    told = rows_for(loops, wait)
                    self.assertEqual(told, rows_by_definition(loops, wait))
                    self.assertIs(type(told), list)

    def test_most_loops_and_waits(self):
        self.assertEqual(rows_for((10,) * 6, 60), sorted(itertools.permutations(range(6))))
        self.assertEqual(rows_for((1,) * 6, 7), [])
        self.assertEqual(rows_for((1, 2, 4, 8, 16, 29), 60), sorted(itertools.permutations(range(6))))
        self.assertEqual(rows_for((40, 20, 1, 19, 30, 31), 60), rows_by_definition((40, 20, 1, 19, 30, 31), 60))

    def test_wrong_arguments_and_their_order(self):
        assert_errors(self, rows_for, ((1, 2), 60), [(0, NoLoops, wrong_loops()), (1, NoWait, odd_numbers() + [0, 61])])
        assert_too_many(self, 6, rows_for, SEVEN, 3)
        assert_too_many(self, 6, rows_for, (1,) * 8, 60)
        self.assertRaises(NoWait, rows_for, SEVEN, 61)

    def test_each_list_is_new(self):
        rows_for((1, 2), 3).clear()
        self.assertEqual(rows_for((1, 2), 3), [(0, 1), (1, 0)])


class FriendsTest(unittest.TestCase):
    def test_plain_rows(self):
        self.assertIs(friends((1, 2), 2, (1,), (0, 1)), True)
        self.assertIs(friends((1, 2), 2, (1,), (1, 0)), False)
        self.assertIs(friends((1, 2), 2, (0,), (0,)), True)
        self.assertIs(friends((1, 2), 3, (0,), (0, 1)), False)

    def test_the_empty_row_and_rows_with_a_loop_several_times(self):
        self.assertIs(friends((1, 2), 2, (), ()), True)
        self.assertIs(friends((1, 2), 4, (), (0, 1)), True)
        self.assertIs(friends((1, 2), 4, (0, 1), ()), True)
        for row in ((0, 0), (0, 1, 0), (1, 1), (0,) * 60):
            for comers in (2, 3, 4):
                self.assertIs(friends((1, 2), comers, row, row), False)
                self.assertIs(friends((1, 2), comers, row, ()), False)
                self.assertIs(friends((1, 2), comers, (), row), False)
                self.assertIs(friends((1, 2), comers, (0,), row), False)

    def test_rows_of_any_sums(self):
        self.assertIs(friends((40,) * 8, 2, (0, 1, 2, 3, 4, 5, 6, 7), (0, 1, 2, 3, 4, 5, 6, 7)), True)
        self.assertIs(friends((40,) * 8, 2, (7, 0, 1, 2, 3, 4, 5, 6), (0, 1, 2, 3, 4, 5, 6, 7)), False)
        self.assertIs(friends((40, 1), 2, (0,), (0, 1)), False)
        self.assertIs(friends((40, 1, 1), 2, (0,), (0, 1, 2)), True)
        self.assertIs(friends((40, 1, 1), 3, (0,), (0, 1, 2)), False)
        self.assertIs(friends((40,), 2, (0,) * 60, (0,) * 60), False)

    def test_all_small_rows(self):
        kept = {True: 0, False: 0}
        for loops in ((1,), (1, 2), (1, 1), (2, 1, 3), (1, 1, 2)):
            rows = [row for many in range(4) for row in itertools.product(range(len(loops)), repeat=many)]
            for row, other in itertools.product(rows, repeat=2):
                for comers in (2, 3, 4):
                    told = friends(loops, comers, row, other)
                    self.assertIs(told, friends_by_definition(loops, comers, row, other))
                    kept[told] += 1
        self.assertGreater(min(kept.values()), 300)

    def test_a_table_is_safe_exactly_if_each_two_rows_are_friends(self):
        for loops, bound in (((1, 2), 3), ((1, 1, 2), 3), ((1, 1, 3), 3), ((2, 1, 1), 4)):
            rows = [[row for many in range(1, wait + 1) for row in itertools.product(range(len(loops)), repeat=many)
                     if sum(loops[loop] for loop in row) == wait] for wait in range(1, bound + 1)]
            for chosen in itertools.islice(itertools.product(*rows), 1500):
                for comers in (2, 3, 4):
                    told = all(friends(loops, comers, row, other) for row in chosen for other in chosen)
                    self.assertIs(safe(Table(loops, chosen), comers), told)

    def test_wrong_arguments_and_their_order(self):
        for row in ((), (0, 1), (0,) * 60):
            assert_errors(self, friends, ((1, 2), 2, row, row), [
                (0, NoLoops, wrong_loops()), (1, NoComers, wrong_comers()), (2, NoRow, WRONG_ROWS), (3, NoRow, WRONG_ROWS)])


class TableForTest(unittest.TestCase):
    def assert_table(self, loops, comers, bound):
        told = table_for(loops, comers, bound)
        self.assertIs(type(told), Table)
        self.assertEqual((told.loops, told.bound), (loops, bound))
        self.assertIs(safe(told, comers), True)

    def test_plain_loops(self):
        self.assertEqual(table_for((1, 2), 2, 3), T)
        self.assertIsNone(table_for((1, 2), 2, 4))
        self.assertIsNone(table_for((1, 2), 3, 3))
        self.assertIsNone(table_for((2,), 2, 1))
        self.assert_table((1,), 4, 1)
        self.assert_table((1, 1, 3), 2, 5)

    def test_all_small_loops_by_trying_all_tables(self):
        kept = {True: 0, False: 0}
        for many in (1, 2, 3):
            for loops in itertools.product(range(1, 4), repeat=many):
                for comers in (2, 3, 4):
                    for bound in range(1, min(sum(loops) + 1, 6)):
                        every = all_safe_tables(loops, comers, bound)
                        self.assertEqual(count_tables(loops, comers, bound), len(every))
                        if every:
                            self.assert_table(loops, comers, bound)
                        else:
                            self.assertIsNone(table_for(loops, comers, bound))
                        kept[every != []] += 1
        self.assertGreater(min(kept.values()), 50)

    def test_most_loops_and_the_greatest_bound(self):
        self.assert_table((1, 2, 4, 8, 16, 29), 2, 60)
        self.assert_table((30, 16, 4, 8, 2, 1), 2, 60)
        self.assert_table((1, 1, 1, 1, 1, 1), 4, 6)
        self.assertIsNone(table_for((1, 2, 4, 8, 16, 28), 2, 60))
        self.assertIsNone(table_for((1, 2, 4, 8, 16, 29), 3, 60))
        self.assertIsNone(table_for((40,) * 6, 2, 60))
        self.assertIsNone(table_for((1, 1, 1, 1, 1, 4), 3, 9))

    def test_equal_calls_give_equal_answers(self):
        for bound in range(1, 10):
            self.assertEqual(table_for((1, 1, 1, 3, 3), 2, bound), table_for((1, 1, 1, 3, 3), 2, bound))

    def test_wrong_arguments_and_their_order(self):
        for function in (table_for, count_tables):
            assert_errors(self, function, ((1, 2), 2, 3), [
                (0, NoLoops, wrong_loops()), (1, NoComers, wrong_comers()), (2, NoBound, wrong_bounds())])
            assert_too_many(self, 6, function, SEVEN, 2, 3)
            assert_too_many(self, 6, function, (1,) * 8, 4, 60)
            self.assertRaises(NoBound, function, SEVEN, 2, 61)
            self.assertRaises(NoComers, function, SEVEN, 5, 61)


class GreatestTableTest(unittest.TestCase):
    def test_plain_loops(self):
        self.assertEqual(greatest_table((1, 2), 2), 3)
        self.assertEqual(greatest_table((1, 1, 3), 2), 5)
        self.assertEqual(greatest_table((1, 2), 3), 2)
        self.assertEqual(greatest_table((2,), 2), 0)
        self.assertEqual(greatest_table((40,) * 6, 4), 0)
        self.assertEqual(greatest_table((1,), 2), 1)

    def test_it_is_the_greatest_bound_with_a_table(self):
        below = 0
        for many in (1, 2, 3, 4):
            for loops in itertools.combinations_with_replacement(range(1, 6), many):
                for comers in (2, 3, 4):
                    told = greatest_table(loops, comers)
                    self.assertLessEqual(told, reach(loops))
                    if told:
                        self.assertIsNotNone(table_for(loops, comers, told))
                    self.assertIsNone(table_for(loops, comers, told + 1))
                    below += told < reach(loops)
        self.assertGreater(below, 40)

    def test_most_loops(self):
        self.assertEqual(greatest_table((1, 2, 4, 8, 16, 32), 2), 60)
        self.assertEqual(greatest_table((40, 29, 16, 8, 4, 2), 2), 0)
        self.assertEqual(greatest_table((1, 2, 4, 8, 16, 28), 2), 59)
        self.assertEqual(greatest_table((1, 1, 1, 1, 1, 4), 3), 8)
        self.assertEqual(greatest_table((1, 1, 1, 1, 1, 1), 4), 6)

    def test_wrong_arguments_and_their_order(self):
        assert_errors(self, greatest_table, ((1, 2), 2), [(0, NoLoops, wrong_loops()), (1, NoComers, wrong_comers())])
        assert_too_many(self, 6, greatest_table, SEVEN, 2)
        self.assertRaises(NoComers, greatest_table, SEVEN, 1)


class CompletedTest(unittest.TestCase):
    def test_plain_dicts(self):
        self.assertEqual(completed((1, 2), 2, 3, {3: (0, 1)}), T)
        self.assertIsNone(completed((1, 2), 2, 3, {3: (1, 0)}))
        self.assertIsNone(completed((1, 2), 2, 4, {1: (0,)}))
        self.assertEqual(completed((1, 1, 3), 2, 5, {1: (1,), 2: (0, 1), 3: (2,), 4: (0, 2), 5: (1, 0, 2)}), V)

    def test_nothing_told(self):
        for loops, comers, bound in (((1, 2), 2, 3), ((1, 2), 3, 3), ((1, 1, 3), 2, 5), ((2,), 2, 1)):
            told = completed(loops, comers, bound, {})
            self.assertEqual(told is None, table_for(loops, comers, bound) is None)
            self.assertTrue(told is None or safe(told, comers))

    def test_rows_with_a_loop_several_times(self):
        self.assertIsNone(completed((1, 2), 2, 3, {2: (0, 0)}))
        self.assertIsNone(completed((1, 1, 1), 2, 3, {3: (0, 1, 0)}))
        self.assertIsNone(completed((1, 1), 2, 60, {60: (0,) * 60}))

    def test_all_small_tables(self):
        chance = random.Random(3)
        kept = {True: 0, False: 0}
        for loops, bound in (((1, 2), 3), ((1, 1, 1), 3), ((1, 1, 2), 4), ((1, 1, 3), 5), ((2, 1, 1), 4), ((1, 2, 3), 5)):
            for comers in (2, 3):
                every = all_safe_tables(loops, comers, bound)
                for _ in range(60):
                    asked = chance.sample(range(1, bound + 1), chance.randint(1, min(3, bound)))
                    told = {wait: chance.choice(rows_by_definition(loops, wait)) for wait in asked}
                    fitting = [rows for rows in every if all(rows[wait - 1] == told[wait] for wait in told)]
                    found = completed(loops, comers, bound, told)
                    if fitting:
                        self.assertIn(found.rows, fitting)
                        self.assertEqual(found.loops, loops)
                    else:
                        self.assertIsNone(found)
                    kept[fitting != []] += 1
        self.assertGreater(min(kept.values()), 100)

    def test_the_order_of_the_keys_means_nothing(self):
        one = {1: (0,), 2: (1, 2), 3: (3,)}
        other = {3: (3,), 2: (1, 2), 1: (0,)}
        self.assertEqual(completed((1, 1, 1, 3), 2, 6, one), completed((1, 1, 1, 3), 2, 6, other))

    def test_the_dict_stays_and_the_table_goes_its_own_way(self):
        told = {3: (0, 1)}
        table = completed((1, 2), 2, 3, told)
        self.assertEqual(told, {3: (0, 1)})
        told[3] = (1, 0)
        self.assertEqual(table, T)

    def test_the_greatest_bound(self):
        loops = (1, 2, 4, 8, 16, 29)
        table = doubling_table(loops)
        told = {wait: table.rows[wait - 1] for wait in range(1, 61)}
        self.assertEqual(completed(loops, 2, 60, told), table)
        self.assertEqual(completed(loops, 2, 60, {60: (0, 1, 2, 3, 4, 5)}), table)
        self.assertIsNone(completed(loops, 2, 60, {60: (5, 4, 3, 2, 1, 0)}))

    def test_wrong_arguments_and_their_order(self):
        wrong = [thing for thing in odd_things() if thing != {}] + [
            [], (), [(3, (0, 1))], ((3, (0, 1)),), {3: [0, 1]}, {3: (0,)}, {3: (0, 2)}, {3: (0, -1)}, {3: (0, True)}, {True: (0,)},
            {0: ()}, {4: (1, 1)}, {4: (0, 0, 1)}, {-1: ()}, {"1": (0,)}, {None: (0,)}, {(1,): (0,)}, {1: 0}, {1: None},
            {1: ()}, {1: (False,)}, {1: "0"}, {3: (0, 1), 2: (0,)}, {1: (0,), 2: (1,), 3: T}, {10 ** 59: (0,)}, {1: ((0,),)},
        ]
        assert_errors(self, completed, ((1, 2), 2, 3, {1: (0,)}), [
            (0, NoLoops, wrong_loops()), (1, NoComers, wrong_comers()), (2, NoBound, wrong_bounds()), (3, NoTold, wrong)])
        assert_too_many(self, 6, completed, SEVEN, 2, 3, {})
        assert_too_many(self, 6, completed, SEVEN, 2, 3, None)
        self.assertRaises(NoBound, completed, SEVEN, 2, 0, None)


class CountTablesTest(unittest.TestCase):
    def test_plain_loops(self):
        self.assertEqual(count_tables((1, 2), 2, 1), 1)
        self.assertEqual(count_tables((1, 2), 2, 3), 1)
        self.assertEqual(count_tables((1, 2), 2, 4), 0)
        self.assertEqual(count_tables((2,), 2, 1), 0)
        self.assertEqual(count_tables((1, 1, 1, 1), 2, 1), 4)

    def test_four_loops_by_trying_all_tables(self):
        for loops, bound in (((1, 1, 1, 1), 3), ((1, 2, 1, 2), 4), ((1, 2, 3, 4), 6), ((1, 1, 3, 5), 6), ((2, 1, 1, 3), 4)):
            for comers in (2, 3, 4):
                self.assertEqual(count_tables(loops, comers, bound), len(all_safe_tables(loops, comers, bound)))

    def test_many_tables(self):
        self.assertEqual(count_tables((1,) * 6, 2, 1), 6)
        self.assertEqual(count_tables((1,) * 6, 2, 2), 6 * 25)
        self.assertEqual(count_tables((1,) * 6, 2, 6), 360000)

    def test_most_loops_and_the_greatest_bound(self):
        self.assertEqual(count_tables((1, 2, 4, 8, 16, 29), 2, 60), 1)
        self.assertEqual(count_tables((1, 2, 4, 8, 16, 29), 3, 60), 0)


if __name__ == "__main__":
    unittest.main()
