import itertools
import unittest

from common import T, assert_errors, odd_numbers, wrong_loops
from loopstore.clashes import safe
from loopstore.doubling import digits, doubling, doubling_lists, doubling_table
from loopstore.errors import NoLoops, NoTotal, NotDoubling, NoWait, TooMany
from loopstore.search import greatest_table
from loopstore.sizes import fewest, lengths, reach
from loopstore.tables import Table

MOST = (1, 2, 4, 8, 16, 32, 40, 40)
NOT_DOUBLING = [(2,), (40,), (1, 3), (3, 1), (1, 1, 3), (1, 2, 5), (2, 2), (1, 2, 4, 9), (1, 1, 1, 1, 1, 1, 1, 3)]


def all_loops(many, most):
    for size in range(1, many + 1):
        yield from itertools.product(range(1, most + 1), repeat=size)


def is_doubling(loops):
    order = sorted(loops)
    return order[0] == 1 and not [1 for at in range(1, len(order)) if order[at] > 2 * order[at - 1]]


class DoublingTest(unittest.TestCase):
    def test_plain_loops(self):
        for loops in ((1,), (1, 1), (1, 2), (2, 1), (1, 2, 4), (4, 1, 2), (1, 2, 3, 6), MOST, (1,) * 8, MOST[::-1]):
            self.assertIs(doubling(loops), True, loops)
        for loops in NOT_DOUBLING:
            self.assertIs(doubling(loops), False, loops)

    def test_all_small_loops(self):
        told = [doubling(loops) for loops in all_loops(4, 6)]
        self.assertEqual(told, [is_doubling(loops) for loops in all_loops(4, 6)])

    def test_doubling_loops_reach_their_sum(self):
        for loops in all_loops(4, 6):
            if doubling(loops):
                self.assertEqual(reach(loops), sum(loops))

    def test_wrong_loops(self):
        assert_errors(self, doubling, ((1, 2),), [(0, NoLoops, wrong_loops())])


class DigitsTest(unittest.TestCase):
    def test_plain_rows(self):
        self.assertEqual([digits((1, 2), wait) for wait in (1, 2, 3)], [(0,), (1,), (0, 1)])
        self.assertEqual([digits((2, 1), wait) for wait in (1, 2, 3)], [(1,), (0,), (1, 0)])
        self.assertEqual(digits((1, 2, 4, 8, 16, 32), 45), (0, 2, 3, 5))
        # 5 is 3 and 2, as the loop of length 3 is taken first.
        self.assertEqual(digits((1, 2, 3), 5), (1, 2))
        self.assertEqual(digits((3, 2, 1), 5), (1, 0))

    def test_of_loops_of_one_length_the_last_ones_are_taken(self):
        self.assertEqual([digits((1, 1, 1), wait) for wait in (1, 2, 3)], [(2,), (1, 2), (0, 1, 2)])
        self.assertEqual([digits((1, 2, 1, 2), wait) for wait in (1, 2, 3, 4)], [(2,), (3,), (2, 3), (1, 3)])
        self.assertEqual(digits((1, 2, 1, 2), 5), (2, 1, 3))

    def test_edges(self):
        self.assertEqual(digits((1,), 1), (0,))
        self.assertEqual(digits(MOST, 1), (0,))
        self.assertEqual(digits(MOST, 143), (0, 1, 2, 3, 4, 5, 6, 7))
        self.assertEqual(digits(MOST, 40), (7,))
        self.assertEqual(digits((1,) * 8, 8), (0, 1, 2, 3, 4, 5, 6, 7))

    def test_rows_have_their_sums_in_the_order_of_the_loops(self):
        for loops in list(all_loops(4, 5)) + [MOST, MOST[::-1], (16, 1, 4, 8, 2, 40, 32)]:
            if doubling(loops):
                for wait in range(1, sum(loops) + 1):
                    row = digits(loops, wait)
                    self.assertIs(type(row), tuple)
                    self.assertEqual(sum(loops[loop] for loop in row), wait)
                    self.assertEqual(list(row), sorted(set(row), key=lambda loop: (loops[loop], loop)))
                    # No loop that was left would have fitted into what was left of the wait then.
                    for loop in set(range(len(loops))) - set(row):
                        later = [item for item in row if (loops[item], item) > (loops[loop], loop)]
                        self.assertGreater(loops[loop], wait - sum(loops[item] for item in later))

    def test_wrong_arguments_and_their_order(self):
        for loops in ((1, 2), (1, 1)):
            assert_errors(self, digits, (loops, 2), [
                (0, NoLoops, wrong_loops()), (0, NotDoubling, NOT_DOUBLING),
                (1, NoWait, odd_numbers() + [0, sum(loops) + 1])])
        assert_errors(self, digits, (MOST, 2), [(1, NoWait, [0, -1, 144])])


class DoublingTableTest(unittest.TestCase):
    def test_example(self):
        self.assertEqual(doubling_table((1, 2)), T)

    def test_all_digits(self):
        for loops in ((1,), (1, 1), (2, 1, 4), (1, 2, 3, 6), (1,) * 8, (1, 2, 4, 8, 16, 29), (1, 2, 4, 8, 15, 30)):
            table = doubling_table(loops)
            self.assertEqual(
                table, Table(loops, tuple(digits(loops, wait) for wait in range(1, sum(loops) + 1))))

    def test_sums_of_60_and_61(self):
        self.assertEqual(doubling_table((1, 2, 4, 8, 16, 29)).bound, 60)
        for loops in ((1, 2, 4, 8, 16, 30), (30, 16, 8, 4, 2, 1), MOST):
            with self.assertRaises(TooMany) as caught:
                doubling_table(loops)
            self.assertEqual(caught.exception.most, 60)

    def test_the_third_fact(self):
        for loops in all_loops(5, 4):
            if doubling(loops):
                self.assertIs(safe(doubling_table(loops), 2), True, loops)
        for loops in ((1, 2, 4, 8, 16, 29), (29, 16, 8, 4, 2, 1), (1, 2, 3, 6, 12, 24), (1, 1, 2, 3, 6, 10, 18), (1,) * 8):
            self.assertIs(safe(doubling_table(loops), 2), True, loops)

    def test_it_may_clash_for_more_comers(self):
        self.assertIs(safe(doubling_table((1, 2)), 3), False)
        self.assertIs(safe(doubling_table((1, 2)), 4), False)

    def test_doubling_loops_need_no_search(self):
        for loops in all_loops(4, 4):
            if doubling(loops):
                self.assertEqual(greatest_table(loops, 2), sum(loops))

    def test_wrong_arguments_and_their_order(self):
        # Loops that are not doubling are not judged by their sum.
        assert_errors(self, doubling_table, ((1, 2),), [
            (0, NoLoops, wrong_loops()), (0, NotDoubling, NOT_DOUBLING + [(40, 40), (1, 40, 40)])])


class DoublingListsTest(unittest.TestCase):
    def test_plain_totals(self):
        self.assertEqual(doubling_lists(1), [(1,)])
        self.assertEqual(doubling_lists(2), [(1, 1)])
        self.assertEqual(doubling_lists(3), [(1, 1, 1), (1, 2)])
        self.assertEqual(doubling_lists(4), [(1, 1, 1, 1), (1, 1, 2)])
        self.assertEqual(doubling_lists(5), [(1, 1, 1, 1, 1), (1, 1, 1, 2), (1, 2, 2)])

    def test_all_totals_by_trying_all_lists(self):
        for total in range(1, 17):
            found = []
            for many in range(1, 9):
                for loops in itertools.combinations_with_replacement(range(1, 17), many):
                    if loops[0] > 1 or len(found) > 10 ** 6:
                        break
                    if sum(loops) == total and is_doubling(loops):
                        found.append(loops)
            self.assertEqual(doubling_lists(total), sorted(found))
            for loops in doubling_lists(total):
                self.assertIs(doubling(loops), True)

    def test_no_more_than_eight_loops(self):
        self.assertIn((1,) * 8, doubling_lists(8))
        self.assertNotIn((1,) * 9, doubling_lists(9))
        self.assertEqual(max(len(loops) for loops in doubling_lists(16)), 8)

    def test_wrong_totals(self):
        assert_errors(self, doubling_lists, (16,), [(0, NoTotal, odd_numbers() + [0, 17])])

    def test_each_list_is_new(self):
        doubling_lists(5).clear()
        self.assertEqual(len(doubling_lists(5)), 3)


class FewestAndDoublingTest(unittest.TestCase):
    def test_the_lengths_are_doubling_loops_that_reach_the_bound(self):
        for bound in range(1, 61):
            loops = lengths(bound)
            self.assertEqual(len(loops), fewest(bound))
            self.assertIs(doubling(loops), True)
            self.assertGreaterEqual(reach(loops), bound)

    def test_fewer_loops_reach_no_bound_of_theirs(self):
        # Loops that reach much begin with 1, and none is more than 1 above the sum of those ahead.
        chains = [(1,)]
        most = {}
        for many in range(1, 6):
            most[many] = max(reach(loops) for loops in chains)
            chains = [loops + (length,) for loops in chains for length in range(loops[-1], sum(loops) + 2)]
        self.assertEqual(most, {1: 1, 2: 3, 3: 7, 4: 15, 5: 31})
        for bound in range(2, 61):
            self.assertLess(most[fewest(bound) - 1], bound)


if __name__ == "__main__":
    unittest.main()
