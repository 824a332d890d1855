import itertools
import random
import unittest

from common import assert_errors, assert_too_many, nested, odd_things, wrong_bounds, wrong_comers, wrong_loops
from loopstore.clashes import safe
from loopstore.errors import NoBound, NoComers, NoLoops, NoPrices
from loopstore.games import closed
from loopstore.lots import cheapest, lightest, needed, needed_tables
from loopstore.search import completed, count_tables, friends, rows_for, table_for
from loopstore.sizes import reach
from loopstore.tables import Table

SEVEN = (1, 2, 3, 4, 5, 6, 7)


def lots_by_definition(loops, keeps):
    every = [lot for many in range(1, len(loops) + 1) for lot in itertools.combinations(range(len(loops)), many)]
    enough = [lot for lot in every if keeps(tuple(loops[loop] for loop in lot))]
    return sorted(lot for lot in enough if not any(set(other) < set(lot) for other in enough))


def offers_by_definition(prices, comers, bound):
    lengths = sorted(prices)
    every = [loops for many in range(1, 7) for loops in itertools.combinations_with_replacement(lengths, many)]
    return sorted((sum(prices[length] for length in loops), loops)
                  for loops in every if table_for(loops, comers, bound) is not None)


def items(table):
    return sum(len(row) for row in table.rows)


def least_items(loops, comers, bound):
    """The fewest items of a safe table, by going through all rows that are friends of those put ahead, heavy ones last."""
    rows = [sorted(rows_for(loops, wait), key=len) for wait in range(1, bound + 1)]
    known = {}

    def are_friends(row, other):
        if (row, other) not in known:
            known[row, other] = friends(loops, comers, row, other)
        return known[row, other]

    def least(chosen, limit):
        """The fewest items of the rows still to choose, if they are below the limit, or else the limit."""
        if len(chosen) == bound:
            return min(0, limit)
        for row in rows[len(chosen)]:
            rest = sum(len(options[0]) for options in rows[len(chosen) + 1:])
            if len(row) + rest < limit and all(are_friends(row, other) for other in chosen):
                limit = min(limit, len(row) + least(chosen + [row], limit - len(row)))
        return limit

    return least([], 1000)


class NeededTest(unittest.TestCase):
    def test_plain_lots(self):
        self.assertEqual(needed((1, 2, 2), 2, 3), [(0, 1), (0, 2)])
        self.assertEqual(needed_tables((1, 2, 2), 2, 3), [(0, 1), (0, 2)])
        self.assertEqual(needed((1,), 2, 1), [(0,)])
        self.assertEqual(needed((1, 1, 1), 2, 1), [(0,), (1,), (2,)])
        self.assertEqual(needed((2, 1, 2), 2, 3), [(0, 1), (1, 2)])
        self.assertEqual(needed((1, 2, 2), 3, 3), needed_tables((1, 2, 2), 3, 3))

    def test_no_lot_at_all(self):
        for loops, comers, bound in (((2,), 2, 1), ((1, 2), 2, 4), ((1, 2), 3, 3), ((40,) * 6, 4, 60), ((1, 1), 2, 60)):
            self.assertEqual(needed(loops, comers, bound), [])
            self.assertEqual(needed_tables(loops, comers, bound), [])

    def test_by_the_definition(self):
        seen = {0: 0, 1: 0, 2: 0}
        for many in (1, 2, 3, 4):
            for loops in itertools.product(range(1, 4), repeat=many):
                for comers, bound in ((2, 1), (2, 3), (2, 5), (3, 2), (3, 4), (4, 3)):
                    keeps = lots_by_definition(loops, lambda lengths: closed(lengths, comers, bound) is not None)
                    self.assertEqual(needed(loops, comers, bound), keeps)
                    seen[min(len(keeps), 2)] += 1
                    keeps = lots_by_definition(loops, lambda lengths: table_for(lengths, comers, bound) is not None)
                    self.assertEqual(needed_tables(loops, comers, bound), keeps)
        self.assertGreater(min(seen.values()), 20)

    def test_six_loops(self):
        for loops in ((1, 1, 2, 2, 3, 3), (3, 1, 4, 2, 6, 1), (1, 2, 4, 4, 4, 4)):
            for comers, bound in ((2, 6), (3, 5)):
                for function, tells in ((needed, closed), (needed_tables, table_for)):
                    keeps = lots_by_definition(loops, lambda lengths: tells(lengths, comers, bound) is not None)
                    self.assertEqual(function(loops, comers, bound), keeps)
        self.assertEqual(needed_tables((1, 2, 4, 8, 16, 29), 2, 60), [(0, 1, 2, 3, 4, 5)])
        self.assertEqual(needed_tables((29, 16, 8, 4, 2, 1), 2, 16), [(1, 2, 3, 4, 5)])

    def test_more_than_2000_stands_of_a_lot_that_is_looked_at(self):
        # All six loops have more than 2000 stands, but as fewer of them are enough, they are not looked at.
        assert_too_many(self, 2000, closed, (1, 1, 2, 2, 3, 3), 2, 9)
        self.assertEqual(needed((1, 1, 2, 2, 3, 3), 2, 9)[0], (0, 1, 2, 3, 4))
        assert_too_many(self, 2000, needed, (1, 1, 2, 2, 3, 3), 2, 10)
        # Some lot that has too many stands is looked at, though others are told; its reach is the bound or more.
        self.assertIsNotNone(closed((1, 2, 3), 2, 6))
        assert_too_many(self, 2000, needed, (1, 2, 3, 4, 5, 6), 2, 7)
        # Lots with a reach below the bound are not looked at.
        assert_too_many(self, 2000, closed, (1, 1, 2, 2, 3, 3), 2, 13)
        self.assertEqual(reach((1, 1, 2, 2, 3, 3)), 12)
        self.assertEqual(needed((1, 1, 2, 2, 3, 3), 2, 13), [])
        self.assertEqual(needed_tables((1, 2, 3, 4, 5, 6), 2, 21), [(0, 1, 2, 3, 4, 5)])

    def test_each_list_is_new(self):
        for function in (needed, needed_tables):
            function((1, 2, 2), 2, 3).clear()
            self.assertEqual(function((1, 2, 2), 2, 3), [(0, 1), (0, 2)])
            self.assertIs(type(function((1, 2, 2), 2, 3)[0]), tuple)

    def test_wrong_arguments_and_their_order(self):
        for function in (needed, needed_tables, lightest):
            assert_errors(self, function, ((1, 2), 2, 3), [
                (0, NoLoops, wrong_loops()), (1, NoComers, wrong_comers()), (2, NoBound, wrong_bounds())])
            assert_too_many(self, 6, function, SEVEN, 2, 3)
            assert_too_many(self, 6, function, (1,) * 8, 4, 60)
            self.assertRaises(NoComers, function, SEVEN, 5, 3)
            self.assertRaises(NoBound, function, SEVEN, 2, 61)
            function((1, 1, 1, 1, 1, 1), 2, 1)


class CheapestTest(unittest.TestCase):
    def test_plain_prices(self):
        self.assertEqual(cheapest({1: 5}, 2, 1), (5, (1,)))
        self.assertEqual(cheapest({1: 1, 2: 1}, 2, 3), (2, (1, 2)))
        self.assertEqual(cheapest({1: 1, 2: 3}, 2, 3), (3, (1, 1, 1)))
        self.assertEqual(cheapest({1: 10 ** 6, 2: 10 ** 6}, 2, 3), (2 * 10 ** 6, (1, 2)))

    def test_lengths_that_are_too_long(self):
        self.assertEqual(cheapest({1: 7, 40: 1}, 2, 1), (7, (1,)))
        self.assertEqual(cheapest({2: 7, 1: 9, 40: 1, 30: 1, 20: 1, 10: 1}, 2, 3), (16, (1, 2)))
        self.assertEqual(cheapest({1: 1, 2: 3, 39: 1}, 2, 4), (4, (1, 1, 1, 1)))

    def test_of_two_that_cost_alike_the_least(self):
        # 1, 2 and 1, 1, 1 cost alike; 1, 1 and 2 is neither of the two least ones.
        self.assertEqual(cheapest({1: 1, 2: 2}, 2, 3), (3, (1, 1, 1)))
        self.assertEqual(cheapest({1: 1, 2: 4, 3: 4}, 2, 5), (5, (1, 1, 1, 1, 1)))
        self.assertEqual(cheapest({1: 3, 2: 1, 3: 1}, 2, 5)[0], offers_by_definition({1: 3, 2: 1, 3: 1}, 2, 5)[0][0])
        self.assertEqual(cheapest({1: 1, 2: 1, 3: 1}, 2, 5), (3, (1, 1, 3)))

    def test_none(self):
        for prices, comers, bound in (({2: 1}, 2, 1), ({40: 1}, 4, 60), ({1: 1}, 2, 7), ({1: 1, 2: 1}, 2, 60),
                                      ({1: 1, 3: 1}, 2, 20), ({2: 1, 3: 1, 4: 1, 5: 1, 6: 1, 7: 1}, 2, 1)):
            self.assertIsNone(cheapest(prices, comers, bound))

    def test_at_most_six_loops(self):
        self.assertEqual(cheapest({1: 1}, 2, 6), (6, (1, 1, 1, 1, 1, 1)))
        self.assertEqual(cheapest({1: 1}, 4, 6), (6, (1, 1, 1, 1, 1, 1)))
        self.assertEqual(cheapest({1: 1, 2: 1, 4: 1, 8: 1, 16: 1, 29: 1}, 2, 60), (6, (1, 2, 4, 8, 16, 29)))

    def test_by_the_definition(self):
        chance = random.Random(23)
        found = 0
        for _ in range(40):
            prices = {length: chance.randint(1, 4) for length in chance.sample([1, 1, 2, 3, 4, 5, 40], chance.randint(1, 3))}
            prices[1] = chance.randint(1, 6)
            comers, bound = chance.choice([2, 3, 4]), chance.randint(1, 7)
            offers = offers_by_definition(prices, comers, bound)
            self.assertEqual(cheapest(prices, comers, bound), offers[0] if offers else None)
            found += len(offers) > 0
        self.assertGreater(found, 20)

    def test_prices_are_not_changed(self):
        prices = {2: 7, 1: 9}
        cheapest(prices, 2, 3)
        self.assertEqual(list(prices.items()), [(2, 7), (1, 9)])

    def test_wrong_arguments_and_their_order(self):
        wrong = [thing for thing in odd_things() if thing != {2: 2}] + [
            [], (), 0, [(1, 1)], {length: 1 for length in SEVEN}, {0: 1}, {41: 1}, {-1: 1}, {True: 1}, {1: 0}, {1: -1},
            {1: 10 ** 6 + 1}, {1: True}, {1: None}, {1: "1"}, {"1": 1}, {None: 1}, {(1,): 1}, {1: [1]}, {1: 1, 0: 1},
            {1: 1, 2: False}, {1: 10 ** 59}, {10 ** 59: 1}, {b"\x01": 1}, {1: nested(list, 39, 1)},
            {length: 1 for length in range(1, 41)}]
        assert_errors(self, cheapest, ({1: 1, 40: 10 ** 6, 2: 1, 3: 1, 4: 1, 5: 1}, 2, 1), [
            (0, NoPrices, wrong), (1, NoComers, wrong_comers()), (2, NoBound, wrong_bounds())])
        self.assertEqual(cheapest({2: 2}, 2, 1), None)


class LightestTest(unittest.TestCase):
    def assert_lightest(self, loops, comers, bound, least):
        told = lightest(loops, comers, bound)
        self.assertIs(type(told), tuple)
        number, table = told
        self.assertIsInstance(table, Table)
        self.assertEqual((table.loops, table.bound), (loops, bound))
        self.assertIs(safe(table, comers), True)
        self.assertEqual(items(table), number)
        self.assertEqual(number, least)

    def test_plain_tables(self):
        self.assert_lightest((1,), 2, 1, 1)
        self.assert_lightest((1, 2), 2, 3, 4)
        self.assert_lightest((1, 2, 3), 2, 3, 3)
        self.assert_lightest((1, 2, 3), 2, 4, 5)
        self.assert_lightest((1, 1), 2, 2, 3)
        self.assert_lightest((1, 2, 4, 8, 16, 29), 2, 60, items(table_for((1, 2, 4, 8, 16, 29), 2, 60)))

    def test_none(self):
        for loops, comers, bound in (((2,), 2, 1), ((1, 2), 2, 4), ((1, 2), 3, 3), ((40,) * 6, 4, 60), ((1,), 2, 60),
                                     ((1, 3), 2, 3)):
            self.assertIsNone(lightest(loops, comers, bound))

    def test_by_all_tables(self):
        kept = {True: 0, False: 0}
        for many in (1, 2, 3):
            for loops in itertools.product(range(1, 5), repeat=many):
                for comers, bound in ((2, 2), (2, 4), (2, 6), (3, 4), (4, 3)):
                    every = [Table(loops, rows) for rows in itertools.product(
                        *[rows_for(loops, wait) for wait in range(1, bound + 1)])]
                    least = min((items(table) for table in every if safe(table, comers)), default=None)
                    if least is None:
                        self.assertIsNone(lightest(loops, comers, bound))
                    else:
                        self.assert_lightest(loops, comers, bound, least)
                    kept[least is None] += 1
        self.assertGreater(min(kept.values()), 40)

    def test_a_light_row_may_bar_others(self):
        # Some tables of these loops have fewer items than the first one that a search finds.
        heavier = 0
        for loops in ((1, 2, 3, 4, 5, 6), (1, 1, 2, 3, 4, 5), (1, 2, 2, 3, 4, 7)):
            for comers, bound in ((2, 8), (3, 6), (2, 12)):
                number, table = lightest(loops, comers, bound)
                self.assert_lightest(loops, comers, bound, number)
                self.assertLessEqual(number, items(table_for(loops, comers, bound)))
                heavier += number < items(table_for(loops, comers, bound))
                self.assertGreaterEqual(count_tables(loops, comers, bound), 1)
                self.assert_none_lighter(loops, comers, bound, number)
        self.assertGreater(heavier, 2)

    def assert_none_lighter(self, loops, comers, bound, number):
        """Each of the rows for the last wait, with the rest searched anew, makes no lighter table."""
        for row in rows_for(loops, bound):
            found = completed(loops, comers, bound, {bound: row})
            if found is not None:
                self.assertGreaterEqual(items(found), number)

    def test_by_going_through_all_friends(self):
        for loops, comers, bound in (((1, 2, 3, 4, 6), 4, 9), ((1, 2, 3, 3, 6), 3, 13), ((1, 2, 3, 5, 6), 3, 10),
                                     ((1, 2, 4, 4, 4), 2, 13), ((1, 2, 3, 4, 5), 2, 13)):
            self.assert_lightest(loops, comers, bound, least_items(loops, comers, bound))

    def test_six_loops_of_one_length(self):
        self.assert_lightest((1,) * 6, 2, 6, 21)
        self.assert_lightest((1,) * 6, 4, 6, 21)


if __name__ == "__main__":
    unittest.main()
