import itertools
import random
import unittest

from common import LONGEST, T, U, V, assert_errors, led_day, led_line, odd_numbers, random_table, wrong_comers
from loopstore.checks import is_comings
from loopstore.days import inside
from loopstore.doubling import doubling_table
from loopstore.errors import NoComers, NoLoop
from loopstore.loads import busiest, fullest
from loopstore.tables import Table


def inside_counts(table, comings):
    """How many letters are in each loop behind the last tick, each letter led from loop to loop."""
    counts = [0] * len(table.loops)
    for letter in led_line(table.bound, comings):
        entered = letter["tick"]
        for loop in table.rows[letter["wait"] - 1] if letter["wait"] else ():
            counts[loop] += entered <= len(comings) - 1 < entered + table.loops[loop]
            entered += table.loops[loop]
    return counts


def laid_count(table, comings):
    return len([tick for tick, letter, loop in led_day(table, comings) if tick == len(comings) - 1])


def small_tables():
    chance = random.Random(9)
    loops = [(1,), (1, 2), (1, 1, 2), (3, 1), (1, 2, 3), (2, 1, 2)]
    return [T, U, V] + [random_table(chance, chance.choice(loops), chance.randint(1, 3)) for _ in range(8)]


class LoadsTest(unittest.TestCase):
    def assert_loads(self, table, comers, most_inside, most_laid):
        for loop, most in enumerate(most_inside):
            number, comings = fullest(table, comers, loop)
            self.assertEqual(number, most)
            self.assertTrue(is_comings(comers, comings) and comings)
            self.assertEqual(inside_counts(table, comings)[loop], number)
            self.assertEqual(len([one for one in inside(table, comers, comings, len(comings) - 1) if one[0] == loop]), number)
        number, comings = busiest(table, comers)
        self.assertEqual(number, most_laid)
        self.assertTrue(is_comings(comers, comings) and comings)
        self.assertEqual(laid_count(table, comings), number)

    def test_plain_tables(self):
        self.assert_loads(T, 2, [1, 2], 2)
        # Two letters meet in the loop 1, beside one that has come a tick ago.
        self.assert_loads(U, 2, [1, 3], 3)
        self.assert_loads(Table((1,), ((0,),)), 2, [1], 1)
        self.assert_loads(Table((1, 2), ((0,),)), 4, [1, 0], 1)

    def test_all_comings_of_few_ticks(self):
        for table in small_tables():
            # Ever more letters come, so that the line is full in time.
            for comers, ticks in ((2, 7), (3, 5)):
                inside_most = [0] * len(table.loops)
                laid_most = 0
                for comings in itertools.product(range(comers + 1), repeat=ticks):
                    inside_most = [max(pair) for pair in zip(inside_most, inside_counts(table, comings))]
                    laid_most = max(laid_most, laid_count(table, comings))
                self.assert_loads(table, comers, inside_most, laid_most)

    def test_longer_rows_by_random_comings(self):
        chance = random.Random(10)
        for loops in ((1, 2, 4), (1, 1, 3, 5), (2, 1, 7, 3), (1, 2, 4, 8)):
            for comers in (2, 3, 4):
                table = random_table(chance, loops, chance.choice([6, 10, 15]))
                most = [fullest(table, comers, loop)[0] for loop in range(len(loops))]
                laid = busiest(table, comers)[0]
                for _ in range(100):
                    comings = tuple(chance.choice([0, 1, 2, comers]) for _ in range(chance.randint(1, 30)))
                    self.assertTrue(all(one <= other for one, other in zip(inside_counts(table, comings), most)))
                    self.assertLessEqual(laid_count(table, comings), laid)
                self.assert_loads(table, comers, most, laid)

    def test_letters_that_meet_count(self):
        # All letters of the line are in the one loop behind each tick.
        table = Table((1,), tuple((0,) * many for many in range(1, 6)))
        for comers in (2, 3, 4):
            self.assert_loads(table, comers, [5], 5)
            self.assert_loads(LONGEST, comers, [60], 60)

    def test_no_more_letters_of_one_age_than_comers(self):
        # All are laid into the loop at their coming, and just then, as it is left before.
        table = Table((1, 2, 3, 4, 5), ((0,), (1,), (2,), (3,), (4,)))
        self.assertEqual([busiest(table, comers)[0] for comers in (2, 3, 4)], [2, 3, 4])

    def test_the_greatest_bound_and_loops_without_letters(self):
        table = doubling_table((1, 2, 4, 8, 16, 29))
        for comers in (2, 4):
            for loop in range(6):
                number, comings = fullest(table, comers, loop)
                self.assertEqual(inside_counts(table, comings)[loop], number)
        self.assertEqual([fullest(table, 2, loop)[0] for loop in range(6)], [1, 2, 4, 8, 16, 29])
        unused = Table((1, 40, 7, 7, 7, 7, 7, 7), ((0,), (0, 0)))
        for loop in range(1, 8):
            self.assertEqual(fullest(unused, 2, loop)[0], 0)
            self.assertGreaterEqual(len(fullest(unused, 2, loop)[1]), 1)
        self.assertEqual(fullest(unused, 2, 0)[0], 2)

    def test_in_a_safe_table_no_loop_holds_more_letters_than_it_is_long(self):
        for table in (T, V, doubling_table((1, 2, 3, 6)), doubling_table((1, 1, 2, 4, 8))):
            for loop, length in enumerate(table.loops):
                self.assertLessEqual(fullest(table, 2, loop)[0], length)
            self.assertLessEqual(busiest(table, 2)[0], len(table.loops))

    def test_wrong_arguments_and_their_order(self):
        assert_errors(self, fullest, (T, 2, 1), [
            (1, NoComers, wrong_comers()), (2, NoLoop, [thing for thing in odd_numbers() if thing != 0] + [-1, 2, 8])])
        assert_errors(self, fullest, (V, 2, 2), [(2, NoLoop, [3, 8, -1])])
        assert_errors(self, busiest, (T, 2), [(1, NoComers, wrong_comers())])


if __name__ == "__main__":
    unittest.main()
