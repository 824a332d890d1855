import itertools
import random
import unittest

from common import (
    LONGEST, T, U, V, assert_errors, led_line, meets_of, odd_numbers, odd_things, odd_tuples, random_comings, random_table,
    wrong_comers)
from loopstore.changes import change_way, changed_day, crossing, crossings, is_crossing, smooth
from loopstore.checks import is_comings
from loopstore.clashes import clashes, safe
from loopstore.days import day
from loopstore.doubling import doubling_table
from loopstore.errors import Meet, NoComers, NoComings, NoTable, NoTables, NoTick, OtherTables
from loopstore.search import rows_for
from loopstore.tables import Table, entries

# Both are safe for 2 comers, but letters by the one meet letters by the other.
ONE = Table((1, 1), ((0,), (1, 0)))
OTHER = Table((1, 1), ((1,), (0, 1)))
# All letters go through its only loop.
LONG = Table((1,), tuple((0,) * many for many in range(1, 5)))
WRONG_COMINGS = [thing for thing in odd_tuples() if thing != ()] + [(0,) * 401, (3,), (-1,), (2, True), [2, 2]]


def crossings_by_definition(one, other, comers):
    found = []
    for loop, gone, left in entries(one):
        for same, later, more in entries(other):
            if loop == same and left < more and gone > later and more - left <= comers * (gone - later) + comers - 1:
                found.append(((loop, gone, left), (same, later, more)))
    return sorted(found)


def led_change(one, other, comings, tick):
    """All layings, each letter led from loop to loop by the table of its coming."""
    found = []
    for number, letter in enumerate(led_line(one.bound, comings)):
        entered = letter["tick"]
        rows = (one if entered < tick else other).rows
        for loop in rows[letter["wait"] - 1] if letter["wait"] else ():
            found.append((entered, number, loop))
            entered += one.loops[loop]
    return sorted(found)


def crosses(one, other, comings, tick, first, second):
    """Whether these two letters of a change are as a crossing needs them."""
    letters = led_line(one.bound, comings)
    if not letters[first]["tick"] < tick <= letters[second]["tick"]:
        return False
    laid = led_change(one, other, comings, tick)
    places = [[(at, loop) for at, letter, loop in laid if letter == number] for number in (first, second)]
    return any(place in places[1] for place in places[0])


def random_pair(chance):
    """Two tables with the same loops and the same bound."""
    loops = chance.choice([(1,), (1, 2), (1, 1), (1, 1, 2), (1, 2, 3), (2, 1, 1, 3), (1, 2, 4)])
    bound = chance.randint(1, 7)
    return random_table(chance, loops, bound), random_table(chance, loops, bound)


def safe_tables(loops, bound):
    every = [Table(loops, rows) for rows in itertools.product(*[rows_for(loops, wait) for wait in range(1, bound + 1)])]
    return [table for table in every if safe(table, 2)]


def ways_by_definition(tables, comers, first, last):
    """The least of the shortest ways, by all tuples of unlike numbers."""
    steps = smooth(tables, comers)
    for many in range(1, len(tables) + 1):
        for way in itertools.permutations(range(len(tables)), many):
            if way[0] == first and way[-1] == last and all(pair in steps for pair in zip(way, way[1:])):
                return way
    return None


class CrossingsTest(unittest.TestCase):
    def test_plain_tables(self):
        self.assertEqual(crossings(ONE, OTHER, 2), [((0, 1, 1), (0, 0, 2))])
        self.assertEqual(crossings(OTHER, ONE, 2), [((1, 1, 1), (1, 0, 2))])
        self.assertTrue(safe(ONE, 2) and safe(OTHER, 2))

    def test_the_same_table_twice(self):
        for table in (T, V, ONE, OTHER, doubling_table((1, 2, 4, 8))):
            self.assertEqual(crossings(table, table, 2), [])
        # What clashes with gone alike does not cross.
        self.assertEqual(crossings(U, U, 2), [])
        self.assertEqual(clashes(U, 2), [((1, 0, 2), (1, 0, 3))])
        twice = Table((1,), ((0,), (0, 0)))
        self.assertEqual(crossings(twice, twice, 2), [((0, 1, 1), (0, 0, 2))])
        self.assertEqual(crossings(twice, Table((1,), ((0,), (0, 0))), 2), [((0, 1, 1), (0, 0, 2))])

    def test_edges_of_the_definition(self):
        # By comers 2 letters one tick apart can be three places apart, by comers 3 five, by comers 4 seven.
        one = Table((1,) * 2, tuple((0,) * (wait - 1) + (1,) for wait in range(1, 9)))
        other = Table((1,) * 2, tuple((1,) + (0,) * (wait - 1) for wait in range(1, 9)))
        for comers, most in ((2, 3), (3, 5), (4, 7)):
            apart = [more - left for (loop, gone, left), (_, later, more) in crossings(one, other, comers)
                     if loop == 1 and (gone, later) == (1, 0)]
            self.assertEqual((min(apart), max(apart)), (1, most))

    def test_chance(self):
        chance = random.Random(24)
        kept = {True: 0, False: 0}
        for _ in range(200):
            one, other = random_pair(chance)
            for comers in (2, 3, 4):
                told = crossings(one, other, comers)
                self.assertEqual(told, crossings_by_definition(one, other, comers))
                self.assertIs(type(told), list)
                kept[told == []] += 1
        self.assertGreater(min(kept.values()), 60)

    def test_the_longest_rows(self):
        found = crossings(LONGEST, LONGEST, 2)
        self.assertEqual(found[0], ((0, 1, 1), (0, 0, 2)))
        self.assertEqual(found[-1], ((0, 59, 1), (0, 58, 2)))
        self.assertEqual(found, sorted(found))
        found.clear()
        self.assertNotEqual(crossings(LONGEST, LONGEST, 2), [])

    def test_other_loops_or_bounds(self):
        others = [U, V, Table((1, 2), T.rows[:2]), Table((1, 2), T.rows + ((0, 1, 0),)), Table((2, 1), ((1,), (0,), (1, 0))),
                  Table((1, 2, 1), T.rows)]
        for function in (crossings, crossing):
            function(T, others[0], 2)
            for other in others[1:]:
                for comers in (2, 5, None):
                    self.assertRaises(OtherTables, function, T, other, comers)
                    self.assertRaises(OtherTables, function, other, T, comers)
        for other in others[1:]:
            self.assertRaises(OtherTables, is_crossing, T, other, 5, None)
            self.assertRaises(OtherTables, changed_day, other, T, 5, None, None)

    def test_wrong_comers(self):
        for function in (crossings, crossing):
            assert_errors(self, function, (T, U, 2), [(0, OtherTables, odd_things()[:-10] + [T.rows, V]),
                                                      (1, OtherTables, [None, V, ()]), (2, NoComers, wrong_comers())])
        assert_errors(self, is_crossing, (T, U, 2, None), [(0, OtherTables, [V]), (2, NoComers, wrong_comers())])


class CrossingTest(unittest.TestCase):
    def assert_crossing(self, one, other, comers):
        """The ninth fact for these tables; tells whether there is a crossing."""
        told = crossing(one, other, comers)
        self.assertIs(told is not None, crossings(one, other, comers) != [])
        if told is None:
            return False
        self.assertIs(type(told), tuple)
        comings, tick, first, second = told
        self.assertTrue(is_comings(comers, comings))
        self.assertTrue(1 <= tick <= 1000 and 0 <= first < second)
        self.assertTrue(crosses(one, other, comings, tick, first, second))
        self.assertIs(is_crossing(one, other, comers, told), True)
        return True

    def test_the_ninth_fact(self):
        chance = random.Random(25)
        kept = {True: 0, False: 0}
        for _ in range(200):
            one, other = random_pair(chance)
            for comers in (2, 3, 4):
                kept[self.assert_crossing(one, other, comers)] += 1
        self.assertGreater(min(kept.values()), 60)
        self.assertTrue(self.assert_crossing(LONGEST, LONGEST, 2))
        self.assertTrue(self.assert_crossing(ONE, OTHER, 4))

    def test_tables_without_crossings_never_cross(self):
        chance = random.Random(26)
        pairs = [(one, other) for one, other in itertools.permutations(safe_tables((1, 1, 1, 2), 3)[::3], 2)
                 if not crossings(one, other, 2)]
        self.assertGreater(len(pairs), 100)
        for one, other in pairs[::5]:
            for _ in range(30):
                comings = random_comings(chance, 2, 12)
                # Both are safe, so nobody meets.
                tick = chance.randint(1, 12)
                self.assertEqual(changed_day(one, other, 2, comings, tick), led_change(one, other, comings, tick))

    def test_all_short_comings(self):
        kept = {True: 0, False: 0}
        for one, other in ((ONE, OTHER), (OTHER, ONE), (LONG, LONG), (T, U)):
            for comings in itertools.product(range(3), repeat=4):
                letters = [number for number, letter in enumerate(led_line(one.bound, comings))]
                for tick in (1, 2, 3):
                    for first, second in itertools.product(letters, repeat=2):
                        expected = crosses(one, other, comings, tick, first, second)
                        self.assertIs(is_crossing(one, other, 2, (comings, tick, first, second)), expected)
                        kept[expected] += 1
        self.assertGreater(min(kept.values()), 10)

    def test_the_tick(self):
        comings, tick, first, second = crossing(ONE, OTHER, 2)
        letters = led_line(3, comings)
        for tried in range(1, len(comings) + 3):
            expected = letters[first]["tick"] < tried <= letters[second]["tick"]
            self.assertIs(is_crossing(ONE, OTHER, 2, (comings, tried, first, second)), expected)
        # Later comings, up to the last tick that a change can have.
        late = (0,) * 300 + comings
        self.assertIs(is_crossing(ONE, OTHER, 2, (late, 300 + tick, first, second)), True)
        for wrong in (0, 1000, 1001, -1, True, None, str(tick), 300, 10 ** 59):
            self.assertIs(is_crossing(ONE, OTHER, 2, (late, wrong, first, second)), False)
        self.assertIs(is_crossing(ONE, OTHER, 2, ((0,) * 400 + comings, 400 + tick, first, second)), False)

    def test_the_first_tick_and_the_last_letter(self):
        # The letter 2 comes to the loop 0 one tick behind its coming, just when the letter 3 comes.
        self.assertIs(is_crossing(ONE, OTHER, 3, ((3, 1), 1, 2, 3)), True)
        for wrong in (((3, 1), 0, 2, 3), ((3, 1), 2, 2, 3), ((3, 1), 1, 2, 4), ((3, 1), 1, 2, -1), ((3, 1), 1, -2, 3),
                      ((3, 1), 1, -2, -1), ((3, 1), 1, 3, 2), ((3,), 1, 2, 3)):
            self.assertIs(is_crossing(ONE, OTHER, 3, wrong), False)

    def test_letters_that_are_turned_away(self):
        one, other = Table((1, 1), ((0,), (0, 1))), Table((1, 1), ((1,), (1, 0)))
        comings = (2, 2, 2)
        self.assertEqual([letter["wait"] for letter in led_line(2, comings)], [0, 1, 1, 2, 2, None])
        for first, second in itertools.product(range(6), repeat=2):
            self.assertIs(is_crossing(one, other, 2, (comings, 2, first, second)),
                          crosses(one, other, comings, 2, first, second))
        self.assertIs(is_crossing(one, other, 2, (comings, 2, 3, 4)), True)
        self.assertIs(is_crossing(one, other, 2, (comings, 2, 3, 5)), False)

    def test_whatever_is_judged(self):
        right = crossing(ONE, OTHER, 2)
        comings, tick, first, second = right
        wrong = odd_tuples() + odd_numbers() + [
            list(right), right[:3], right + (0,), (list(comings), tick, first, second), (comings, tick, second, first),
            (comings, tick, first, first), (comings, tick, first, 99), (comings, tick, -1, second),
            (comings, tick, first, True), (comings, tick, False, second), (comings, tick, None, second),
            (comings, tick, first, (second,)), (comings, str(tick), first, second), (None, tick, first, second),
            (comings + (3,), tick, first, second), (comings + (True,), tick, first, second), ((), 1, 0, 0),
            (comings, tick, 10 ** 59, second), {right: right}, ((0,), 1, 0, 1)]
        for thing in wrong:
            with self.subTest(thing=repr(thing)[:40]):
                before = repr(thing)
                self.assertIs(is_crossing(ONE, OTHER, 2, thing), False)
                self.assertEqual(repr(thing), before)
        self.assertIs(is_crossing(ONE, OTHER, 2, right), True)
        self.assertIs(is_crossing(ONE, ONE, 2, right), False)


class ChangedDayTest(unittest.TestCase):
    def test_a_letter_ahead_of_the_tick_and_one_at_it(self):
        one, other = Table((1, 1), ((0,),)), Table((1, 1), ((1,),))
        self.assertEqual(changed_day(one, other, 2, (2, 2, 2), 1), [(0, 1, 0), (1, 2, 1), (2, 4, 1)])
        self.assertEqual(changed_day(one, other, 2, (2, 2, 2), 2), [(0, 1, 0), (1, 2, 0), (2, 4, 1)])
        self.assertEqual(changed_day(one, other, 2, (2, 2, 2), 3), [(0, 1, 0), (1, 2, 0), (2, 4, 0)])
        self.assertEqual(changed_day(one, other, 2, (2, 2, 2), 1000), day(one, 2, (2, 2, 2)))
        self.assertEqual(changed_day(one, other, 2, (), 1), [])

    def test_the_same_table_twice_is_a_day(self):
        chance = random.Random(27)
        for table in (T, V, doubling_table((1, 2, 4, 8))):
            for _ in range(20):
                comings = random_comings(chance, 2, 30)
                self.assertEqual(changed_day(table, table, 2, comings, chance.randint(1, 40)), day(table, 2, comings))

    def test_chance(self):
        chance = random.Random(28)
        kept = {True: 0, False: 0}
        for _ in range(400):
            one, other = random_pair(chance)
            comers = chance.choice([2, 3, 4])
            comings = random_comings(chance, comers, chance.choice([0, 1, 3, 6, 10]))
            tick = chance.choice([1, 2, 3, 5, 8, 1000])
            told = led_change(one, other, comings, tick)
            meets = meets_of(told)
            kept[meets == []] += 1
            if meets:
                with self.assertRaises(Meet) as caught:
                    changed_day(one, other, comers, comings, tick)
                self.assertEqual((caught.exception.tick, caught.exception.loop), meets[0])
            else:
                self.assertEqual(changed_day(one, other, comers, comings, tick), told)
        self.assertGreater(min(kept.values()), 60)

    def test_meets_of_two_letters_of_one_table(self):
        # By U two of the letters that come at tick 2 meet.
        for one, other, tick in ((U, T, 3), (U, T, 1000), (T, U, 1), (T, U, 2)):
            with self.assertRaises(Meet) as caught:
                changed_day(one, other, 2, (2, 2, 2), tick)
            self.assertEqual((caught.exception.tick, caught.exception.loop), (2, 1))
        for one, other, tick in ((U, T, 1), (U, T, 2), (T, U, 3)):
            self.assertEqual(changed_day(one, other, 2, (2, 2, 2), tick), day(T, 2, (2, 2, 2)))

    def test_a_meeting_across_the_change(self):
        comings, tick, first, second = crossing(ONE, OTHER, 2)
        self.assertRaises(Meet, changed_day, ONE, OTHER, 2, comings, tick)
        day(ONE, 2, comings)
        day(OTHER, 2, comings)

    def test_the_least_tick_and_loop(self):
        one = Table((1, 1, 2), ((0,), (2,), (2, 0), (0, 2, 0)))
        comings = (2, 4, 0, 0, 0, 0, 2, 4)
        with self.assertRaises(Meet) as caught:
            changed_day(one, one, 4, comings, 5)
        self.assertEqual((caught.exception.tick, caught.exception.loop), (1, 0))

    def test_wrong_arguments_and_their_order(self):
        assert_errors(self, changed_day, (T, U, 2, (2, 2, 1), 1), [
            (0, OtherTables, [V]), (1, OtherTables, [V]), (2, NoComers, wrong_comers()), (3, NoComings, WRONG_COMINGS),
            (4, NoTick, odd_numbers() + [0, 1001])])
        # The wrong tick goes ahead of the meeting.
        self.assertRaises(NoTick, changed_day, U, U, 2, (2, 2, 2), 0)
        self.assertRaises(Meet, changed_day, U, U, 2, (2, 2, 2), 1000)
        changed_day(T, T, 2, (2,) * 400, 1000).clear()
        self.assertNotEqual(changed_day(T, T, 2, (2,) * 400, 1000), [])


class TablesTest(unittest.TestCase):
    def setUp(self):
        self.tables = safe_tables((1, 1, 1, 2), 3)[::9][:8]
        self.assertEqual(len(self.tables), 8)

    def test_smooth(self):
        self.assertEqual(smooth([T], 2), [])
        self.assertEqual(smooth((T, T), 2), [(0, 1), (1, 0)])
        self.assertEqual(smooth([ONE, OTHER], 2), [])
        self.assertEqual(smooth([ONE, OTHER, ONE], 2), [(0, 2), (2, 0)])
        found = {0: 0, 1: 0}
        for comers in (2, 3, 4):
            told = smooth(self.tables, comers)
            every = itertools.permutations(range(8), 2)
            self.assertEqual(told, [(number, other) for number, other in every
                                    if not crossings_by_definition(self.tables[number], self.tables[other], comers)])
            self.assertEqual(smooth(tuple(self.tables), comers), told)
            found[0] += len(told)
            found[1] += 56 - len(told)
        self.assertGreater(min(found.values()), 20)
        smooth(self.tables, 2).clear()
        self.assertNotEqual(smooth(self.tables, 2), [])
        self.assertEqual(len(self.tables), 8)

    def test_change_way(self):
        self.assertEqual(change_way([ONE], 2, 0, 0), (0,))
        self.assertEqual(change_way([ONE, OTHER], 2, 1, 1), (1,))
        self.assertIsNone(change_way([ONE, OTHER], 2, 0, 1))
        self.assertEqual(change_way((ONE, OTHER, ONE), 2, 0, 2), (0, 2))

    def test_ways_by_the_definition(self):
        chance = random.Random(29)
        seen = {}
        every = safe_tables((1, 1, 1, 2), 3) + safe_tables((1, 1, 2), 3)
        for _ in range(60):
            first = chance.choice(every)
            alike = [table for table in every if (table.loops, table.bound) == (first.loops, first.bound)]
            tables = [first] + [chance.choice(alike) for _ in range(chance.randint(1, 5))]
            for start, end in itertools.product(range(len(tables)), repeat=2):
                way = change_way(tables, 2, start, end)
                self.assertEqual(way, ways_by_definition(tables, 2, start, end))
                length = 0 if way is None else len(way)
                seen[length] = seen.get(length, 0) + 1
        self.assertTrue(all(seen.get(length, 0) > 5 for length in (0, 1, 2, 3)), seen)

    def test_of_the_shortest_ways_the_least(self):
        # The one needs to go by a table between; with two such tables the lesser number is taken.
        every = safe_tables((1, 1, 1, 2), 3)[::4]
        for one, between, last in itertools.permutations(every, 3):
            if smooth([one, last, between], 2) == [(0, 2), (1, 2), (2, 0), (2, 1)]:
                break
        else:
            self.fail("no such tables")
        self.assertEqual(change_way([one, last, between], 2, 0, 1), (0, 2, 1))
        self.assertEqual(change_way([one, last, between, between], 2, 0, 1), (0, 2, 1))
        self.assertEqual(change_way([between, last, between, one], 2, 3, 1), (3, 0, 1))
        self.assertEqual(change_way([last, one, between, between, between], 2, 1, 0), (1, 2, 0))

    def test_each_change_of_a_way_is_smooth(self):
        long = 0
        for first, last in itertools.permutations(range(8), 2):
            way = change_way(self.tables, 2, first, last) or ()
            for one, other in zip(way, way[1:]):
                self.assertEqual(crossings(self.tables[one], self.tables[other], 2), [])
            long += len(way) > 2
        self.assertGreater(long, 5)

    def test_wrong_tables(self):
        wrong = odd_things() + [
            [], (), 0, [T] * 9, (T,) * 9, [T, None], [None], [T, V], (T, Table((1, 2), T.rows[:2])), {T.bound: T}, [T, [T]],
            [T, (T,)], [T.rows], T, [T, Table((2, 1), ((1,), (0,), (1, 0)))], [T, T, T, T, T, T, T, V], [Table], [T, Table]]
        assert_errors(self, smooth, ([T] * 8, 2), [(0, NoTables, wrong), (1, NoComers, wrong_comers())])
        assert_errors(self, change_way, ((T,) * 8, 4, 7, 0), [
            (0, NoTables, wrong), (1, NoComers, wrong_comers()), (2, NoTable, odd_numbers() + [8]),
            (3, NoTable, odd_numbers() + [8])])
        self.assertRaises(NoTable, change_way, [T], 2, 0, 1)
        self.assertRaises(NoTable, change_way, [T], 2, 1, 0)
        self.assertRaises(NoTable, change_way, [T], 2, 1, 1)
        self.assertRaises(NoTable, change_way, [T, T], 2, False, 1)
        self.assertRaises(NoTable, change_way, [T, T], 2, 0, True)


if __name__ == "__main__":
    unittest.main()
