import itertools
import random
import unittest

from common import LONGEST, T, U, V, led_day, led_line, meets_of, odd_numbers, odd_things, random_table
from loopstore.clashes import clashes, safe
from loopstore.errors import NoComers
from loopstore.lines import waits
from loopstore.meetings import is_meeting, meeting
from loopstore.tables import Table


def really_meet(table, comings, one, other):
    """Whether two letters enter one loop at one tick, each led from loop to loop."""
    layings = led_day(table, comings)
    places = [{(tick, loop) for tick, same, loop in layings if same == letter} for letter in (one, other)]
    return len(places[0] & places[1]) > 0


def doubled(bound):
    return Table((1, 2, 4, 8, 16, 32), tuple(
        tuple(loop for loop in range(6) if wait >> loop & 1) for wait in range(1, bound + 1)))


class MeetingTest(unittest.TestCase):
    def check(self, table, comers):
        told = meeting(table, comers)
        self.assertIs(told is None, safe(table, comers))
        self.assertIs(told is None, clashes(table, comers) == [])
        if told is not None:
            self.assertIs(type(told), tuple)
            comings, one, other = told
            self.assertLess(one, other)
            self.assertIs(is_meeting(table, comers, told), True)
            self.assertTrue(all(0 <= number <= comers for number in comings))
            self.assertTrue(really_meet(table, comings, one, other))
        return told is None

    def test_plain_tables(self):
        self.assertIsNone(meeting(T, 2))
        self.assertIsNone(meeting(V, 2))
        self.assertTrue(is_meeting(U, 2, meeting(U, 2)))
        self.assertIsNone(meeting(doubled(60), 2))

    def test_it_is_none_just_where_the_table_is_safe(self):
        chance = random.Random(2)
        loops = [(1,), (1, 2), (2, 1), (1, 2, 4), (1, 1, 3), (1, 1, 2, 3), (1, 2, 4, 8), (1, 1, 2, 2, 3, 3, 5, 40)]
        kept = {True: 0, False: 0}
        for _ in range(400):
            table = random_table(chance, chance.choice(loops), chance.choice([1, 2, 3, 4, 5, 8, 20]))
            for comers in (2, 3, 4):
                kept[self.check(table, comers)] += 1
        self.assertGreater(min(kept.values()), 50)

    def test_long_tables(self):
        chance = random.Random(4)
        for comers in (2, 3, 4):
            self.check(LONGEST, comers)
            self.check(doubled(60), comers)
            for at in range(20):
                rows = list(doubled(60).rows)
                # One row in another order, so that just a few entries clash.
                row = list(rows[chance.randint(2, 59)])
                chance.shuffle(row)
                rows[sum(1 << loop for loop in row) - 1] = tuple(row)
                self.check(Table((1, 2, 4, 8, 16, 32), tuple(rows)), comers)

    def test_the_first_fact_by_all_comings(self):
        rows = [[(0,), (0,), (1,)], [(1,), (0, 0), (2,)], [(0, 1), (1, 0), (0, 0, 0)]]
        for some in itertools.product(rows[0][:1], rows[1][:2], rows[2]):
            table = Table((1, 2), some)
            found = False
            for comings in itertools.product(range(3), repeat=6):
                if meets_of(led_day(table, comings)):
                    found = True
                    break
            self.assertIs(found, not safe(table, 2))
            self.assertIs(found, meeting(table, 2) is not None)

    def test_the_first_fact_for_more_comers(self):
        for comers, ticks in ((3, 4), (4, 3)):
            for table in (T, U, V, Table((1, 1, 2), ((0,), (2,))), Table((1, 2, 3), ((0,), (1,), (2,), (0, 2)))):
                every = itertools.product(range(comers + 1), repeat=ticks)
                found = any(meets_of(led_day(table, comings)) for comings in every)
                self.assertIs(found, meeting(table, comers) is not None)

    def test_wrong_comers(self):
        for thing in odd_numbers() + [0, 1, 5]:
            with self.subTest(thing=repr(thing)[:40]):
                self.assertRaises(NoComers, meeting, T, thing)
                self.assertRaises(NoComers, is_meeting, T, thing, None)

    def test_equal_calls_and_unchanged_tables(self):
        self.assertEqual(meeting(U, 3), meeting(U, 3))
        self.assertEqual(U, Table((1, 2), ((0,), (1,), (1, 0))))


class IsMeetingTest(unittest.TestCase):
    def test_examples(self):
        self.assertIs(is_meeting(U, 2, ((2, 2, 2), 3, 5)), False)
        # Letters 4 and 5 come at tick 2 with the waits 2 and 3.
        self.assertIs(is_meeting(U, 2, ((2, 2, 2), 4, 5)), True)
        self.assertIs(is_meeting(T, 2, ((2, 2, 2), 4, 5)), False)

    def test_all_pairs_of_letters(self):
        chance = random.Random(6)
        seen = {True: 0, False: 0}
        for _ in range(150):
            comers = chance.choice([2, 3, 4])
            table = random_table(chance, chance.choice([(1,), (1, 2), (1, 1, 3)]), chance.choice([1, 2, 4]))
            comings = tuple(chance.randint(0, comers) for _ in range(chance.randint(0, 5)))
            letters = led_line(table.bound, comings)
            for one in range(-2, len(letters) + 2):
                for other in range(-2, len(letters) + 2):
                    right = 0 <= one < other < len(letters) and really_meet(table, comings, one, other)
                    self.assertIs(is_meeting(table, comers, (comings, one, other)), right)
                    seen[right] += 1
        self.assertGreater(min(seen.values()), 20)

    def test_the_first_letter_is_less(self):
        self.assertTrue(is_meeting(U, 2, ((2, 2, 2), 4, 5)))
        self.assertFalse(is_meeting(U, 2, ((2, 2, 2), 5, 4)))
        self.assertFalse(is_meeting(U, 2, ((2, 2, 2), 4, 4)))
        self.assertFalse(is_meeting(U, 2, ((2, 2, 2), -2, -1)))

    def test_letters_that_are_turned_away_meet_nobody(self):
        table = Table((1,), ((0,),))
        self.assertEqual(waits(3, 1, (3, 3)), [0, 1, None, 1, None, None])
        for one, other in itertools.combinations(range(6), 2):
            self.assertFalse(is_meeting(table, 3, ((3, 3), one, other)))

    def test_comings_at_the_limits(self):
        pad = (0,) * 397
        self.assertTrue(is_meeting(U, 2, (pad + (2, 2, 2), 4, 5)))
        self.assertFalse(is_meeting(U, 2, (pad + (0, 2, 2, 2), 4, 5)))
        self.assertTrue(is_meeting(U, 3, ((2, 2, 2, 3), 4, 5)))
        self.assertFalse(is_meeting(U, 2, ((2, 2, 2, 3), 4, 5)))

    def test_things_of_other_kinds(self):
        right = ((2, 2, 2), 4, 5)
        wrong = odd_things() + [
            (), right[:2], right + (6,), list(right), ([2, 2, 2], 4, 5), ((2, True, 2), 4, 5), (None, 4, 5), ("222", 4, 5),
            ((2, 2, 2), "4", 5), ((2, 2, 2), 4, None), ((2, 2, 2), [4], 5), ((2, 2, 2), 4, (5,)), ((2, 2, 2), 4, 10 ** 59),
            ((2, 2, 2), 4, 6), ((2, 2, -1), 4, 5), (((2,),), 4, 5), (T, 4, 5), ((2, 2, 2), T, U), (right,), {0: right}, 3,
        ]
        for thing in wrong:
            with self.subTest(thing=repr(thing)[:40]):
                self.assertIs(is_meeting(U, 2, thing), False)
        self.assertTrue(is_meeting(LONGEST, 3, ((3,), 1, 2)))
        self.assertFalse(is_meeting(LONGEST, 3, ((3,), True, 2)))


if __name__ == "__main__":
    unittest.main()
