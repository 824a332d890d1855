import itertools
import unittest

from common import assert_errors, wrong_bounds, wrong_loops
from loopstore.errors import NoBound, NoLoops
from loopstore.knowing import ahead
from loopstore.lines import waits
from loopstore.sizes import fewest, flood, lengths, reach


class ReachTest(unittest.TestCase):
    def test_plain_loops(self):
        self.assertEqual(reach((1, 1, 3)), 5)
        self.assertEqual(reach((1,)), 1)
        self.assertEqual(reach((2,)), 0)
        self.assertEqual(reach((40,)), 0)
        self.assertEqual(reach((1, 2, 4, 8, 16, 32)), 63)
        self.assertEqual(reach((1, 1, 1, 1, 1, 1, 1, 1)), 8)
        self.assertEqual(reach((1, 2, 4, 8, 16, 32, 40, 40)), 143)

    def test_each_length_is_at_most_one_more_than_the_sum_ahead(self):
        self.assertEqual(reach((1, 2, 4)), 7)
        self.assertEqual(reach((1, 2, 5)), 3)
        self.assertEqual(reach((1, 1, 3, 7)), 5)
        self.assertEqual(reach((1, 3, 3, 3)), 1)
        self.assertEqual(reach((1, 2, 5, 1)), 9)

    def test_the_order_is_by_lengths(self):
        for order in itertools.permutations((3, 1, 1, 7)):
            self.assertEqual(reach(order), 5)
        for order in itertools.permutations((4, 2, 1, 8)):
            self.assertEqual(reach(order), 15)

    def test_all_small_loops(self):
        for many in (1, 2, 3, 4):
            for loops in itertools.product(range(1, 7), repeat=many):
                # The reach is the sum of the loops that are no longer than it, and one less than the next length.
                sums = [sum(sorted(loops)[:some]) for some in range(many + 1)]
                stops = [at for at, some in enumerate(sums) if at == many or sorted(loops)[at] > some + 1]
                self.assertEqual(reach(loops), sums[stops[0]])

    def test_wrong_loops(self):
        for function in (reach, flood):
            assert_errors(self, function, ((1, 2),), [(0, NoLoops, wrong_loops())])


class FloodTest(unittest.TestCase):
    def test_one_more_two_than_the_reach(self):
        self.assertEqual(flood((1, 1, 3)), (2,) * 6)
        self.assertEqual(flood((2,)), (2,))
        self.assertEqual(flood((1, 2, 4, 8, 16, 32, 40, 40)), (2,) * 144)

    def test_it_brings_a_letter_with_one_more_wait_than_the_reach(self):
        for loops in ((1,), (1, 2), (1, 1, 3), (1, 2, 4, 8), (5, 5)):
            self.assertEqual(max(waits(2, 60, flood(loops))), reach(loops) + 1)

    def test_the_second_fact(self):
        seen = 0
        for many in (1, 2, 3, 4):
            for loops in itertools.combinations_with_replacement(range(1, 7), many):
                if reach(loops) <= 11:
                    for bound in (reach(loops) + 1, reach(loops) + 2, 60):
                        self.assertIsNone(ahead(loops, 2, bound, flood(loops)))
                        seen += 1
        self.assertGreater(seen, 300)

    def test_below_the_flood_doubling_loops_keep_their_reach(self):
        for loops in ((1,), (1, 2), (1, 1), (1, 2, 4), (1, 2, 3), (2, 1, 4)):
            self.assertIsNotNone(ahead(loops, 2, reach(loops), flood(loops)))
            self.assertIsNotNone(ahead(loops, 2, 60, flood(loops)[1:]))

    def test_so_many_loops_keep_no_more_than_doubled_lengths(self):
        for many in (1, 2, 3):
            every = itertools.combinations_with_replacement(range(1, 9), many)
            self.assertEqual(max(reach(loops) for loops in every), 2 ** many - 1)


class FewestTest(unittest.TestCase):
    def test_plain_bounds(self):
        self.assertEqual(fewest(5), 3)
        told = [fewest(bound) for bound in range(1, 61)]
        self.assertEqual(told, [1] + [2] * 2 + [3] * 4 + [4] * 8 + [5] * 16 + [6] * 29)

    def test_lengths(self):
        self.assertEqual(lengths(1), (1,))
        self.assertEqual(lengths(3), (1, 2))
        self.assertEqual(lengths(4), (1, 2, 4))
        self.assertEqual(lengths(60), (1, 2, 4, 8, 16, 32))
        for bound in range(1, 61):
            told = lengths(bound)
            self.assertIs(type(told), tuple)
            self.assertEqual(len(told), fewest(bound))
            self.assertGreaterEqual(reach(told), bound)
            self.assertLess(reach(told[:-1]) if told[1:] else 0, bound)

    def test_wrong_bounds(self):
        for function in (fewest, lengths):
            assert_errors(self, function, (1,), [(0, NoBound, wrong_bounds())])


if __name__ == "__main__":
    unittest.main()
