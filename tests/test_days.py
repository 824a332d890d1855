import itertools
import random
import unittest

from common import (
    LONGEST, T, U, V, led_day, led_line, meets_of, odd_numbers, odd_things, odd_tuples, random_table, wrong_loops)
from loopstore.clashes import safe
from loopstore.days import day, inside, is_day
from loopstore.errors import Meet, NoBound, NoComers, NoComings, NoLoops, NoTick
from loopstore.tables import Table

WRONG_COMINGS = [thing for thing in odd_tuples() if thing != ()] + [(0,) * 401, (3,), (-1,), (2, True), [2, 2]]


def many_days():
    """Triples (table, comers, comings), by many of which letters meet."""
    chance = random.Random(9)
    loops = [(1,), (1, 2), (2, 1), (1, 2, 4), (1, 1, 3), (1, 1, 2, 3), (1, 2, 4, 8), (1, 1, 2, 2, 3, 3, 5, 40)]
    for _ in range(400):
        comers = chance.choice([2, 3, 4])
        table = chance.choice([T, V, random_table(chance, chance.choice(loops), chance.choice([1, 2, 3, 5, 9]))])
        most = chance.randint(1, comers)
        yield table, comers, tuple(chance.randint(0, most) for _ in range(chance.randint(0, 12)))
    for table in (T, V, LONGEST, random_table(chance, (1, 2, 4, 8, 16, 32), 60)):
        yield table, 2, tuple(chance.randint(0, 2) for _ in range(400))


class DayTest(unittest.TestCase):
    def test_plain_days(self):
        self.assertEqual(day(T, 2, ()), [])
        self.assertEqual(day(T, 2, (1, 1, 0)), [])
        self.assertEqual(day(T, 2, (2,)), [(0, 1, 0)])
        self.assertEqual(day(T, 2, (2, 2)), [(0, 1, 0), (1, 2, 0), (1, 3, 1)])
        self.assertEqual(day(T, 2, (0, 2, 2, 2)), [(1, 1, 0), (2, 2, 0), (2, 3, 1), (3, 4, 1), (3, 5, 0), (4, 5, 1)])

    def test_letters_that_are_turned_away_are_not_laid(self):
        table = Table((1,), ((0,),))
        self.assertEqual(day(table, 4, (4, 4)), [(0, 1, 0), (1, 4, 0)])

    def test_many_days_and_their_first_meets(self):
        seen = {True: 0, False: 0}
        for table, comers, comings in many_days():
            told = led_day(table, comings)
            meets = meets_of(told)
            seen[bool(meets)] += 1
            if not meets:
                self.assertEqual(day(table, comers, comings), told)
                continue
            with self.assertRaises(Meet) as caught:
                day(table, comers, comings)
            self.assertEqual((caught.exception.tick, caught.exception.loop), meets[0])
        self.assertGreater(min(seen.values()), 30)

    def test_a_meet_has_the_least_tick_and_then_the_least_loop(self):
        # At tick 1 letters with the waits 1 to 4 come: the middle ones meet in loop 2, the others in loop 0.
        table = Table((1, 1, 2), ((0,), (2,), (2, 0), (0, 2, 0)))
        comings = (2, 4, 0, 0, 0, 0, 2, 4)
        self.assertEqual(meets_of(led_day(table, comings)), [(1, 0), (1, 2), (7, 0), (7, 2)])
        with self.assertRaises(Meet) as caught:
            day(table, 4, comings)
        self.assertEqual((caught.exception.tick, caught.exception.loop), (1, 0))

    def test_safe_tables_have_days_for_all_comings(self):
        for table in (T, V):
            for comings in itertools.product(range(3), repeat=7):
                day(table, 2, comings)
        self.assertTrue(safe(T, 2) and safe(V, 2))

    def test_wrong_arguments_and_their_order(self):
        for thing in odd_numbers() + [0, 1, 5]:
            with self.subTest(thing=repr(thing)[:40]):
                self.assertRaises(NoComers, day, U, thing, (2, 2, 2))
                self.assertRaises(NoComers, day, U, thing, None)
        for thing in WRONG_COMINGS:
            with self.subTest(thing=repr(thing)[:40]):
                self.assertRaises(NoComings, day, U, 2, thing)
        self.assertRaises(NoComings, day, U, 2, (2, 2, 2, 3))
        self.assertRaises(Meet, day, U, 2, (2, 2, 2))

    def test_each_list_is_new(self):
        day(T, 2, (2, 2)).clear()
        self.assertEqual(day(T, 2, (2, 2)), [(0, 1, 0), (1, 2, 0), (1, 3, 1)])
        self.assertIs(type(day(T, 2, (2, 2))), list)
        inside(T, 2, (2, 2), 1).clear()
        self.assertEqual(inside(T, 2, (2, 2), 1), [(0, 2, 1), (1, 3, 2)])


class InsideTest(unittest.TestCase):
    def inside_by_layings(self, table, comings, tick):
        found = []
        for entered, letter, loop in led_day(table, comings):
            if tick in range(entered, entered + table.loops[loop]):
                found.append((loop, letter, entered + table.loops[loop] - tick))
        return sorted(found)

    def test_plain_ticks(self):
        self.assertEqual(inside(T, 2, (2, 2), 0), [(0, 1, 1)])
        self.assertEqual(inside(T, 2, (2, 2), 1), [(0, 2, 1), (1, 3, 2)])
        self.assertEqual(inside(T, 2, (2, 2), 2), [(1, 3, 1)])
        self.assertEqual(inside(T, 2, (2, 2), 3), [])
        self.assertEqual(inside(T, 2, (2, 2), 1000), [])
        self.assertEqual(inside(T, 2, (), 0), [])

    def test_letters_that_meet_are_told_like_others(self):
        self.assertRaises(Meet, day, U, 2, (2, 2, 2))
        self.assertEqual(inside(U, 2, (2, 2, 2), 2), [(1, 3, 1), (1, 4, 2), (1, 5, 2)])
        self.assertEqual(inside(U, 2, (2, 2, 2), 3), [(1, 4, 1), (1, 5, 1)])
        self.assertEqual(inside(U, 2, (2, 2, 2), 4), [(0, 5, 1)])

    def test_many_days_at_all_ticks(self):
        for table, comers, comings in itertools.islice(many_days(), 200):
            for tick in [*range(len(comings) + table.bound + 2), 1000]:
                self.assertEqual(inside(table, comers, comings, tick), self.inside_by_layings(table, comings, tick))

    def test_days_at_the_limits(self):
        comings = (2,) * 400
        for tick in (0, 1, 60, 399, 400, 430, 458, 459, 460, 1000):
            self.assertEqual(inside(LONGEST, 2, comings, tick), self.inside_by_layings(LONGEST, comings, tick))

    def test_wrong_ticks(self):
        for thing in odd_numbers() + [1001]:
            with self.subTest(thing=repr(thing)[:40]):
                self.assertRaises(NoTick, inside, U, 2, (2, 2, 2), thing)

    def test_wrong_arguments_and_their_order(self):
        for thing in odd_numbers() + [0, 1, 5]:
            with self.subTest(thing=repr(thing)[:40]):
                self.assertRaises(NoComers, inside, U, thing, (2,), 0)
        for thing in WRONG_COMINGS:
            with self.subTest(thing=repr(thing)[:40]):
                self.assertRaises(NoComings, inside, U, 2, thing, 0)
                self.assertRaises(NoComings, inside, U, 2, thing, 1001)
        self.assertRaises(NoComers, inside, U, 5, None, None)
        self.assertRaises(NoComings, inside, U, 2, None, None)


class IsDayTest(unittest.TestCase):
    RIGHT = ((0, 1, 0), (1, 2, 0), (1, 3, 1), (2, 4, 1), (2, 5, 0), (3, 5, 1))

    def judge(self, thing):
        told = is_day((1, 2), 2, 3, (2, 2, 2), thing)
        self.assertIs(type(told), bool)
        return told

    def is_day_by_definition(self, loops, bound, comings, thing):
        """For ascending tuples of triples of integers: each letter is followed through its own layings."""
        places = [(tick, loop) for tick, letter, loop in thing]
        if len(set(places)) < len(places) or any(loop not in range(len(loops)) for tick, loop in places):
            return False
        letters = led_line(bound, comings)
        if any(letter not in range(len(letters)) for tick, letter, loop in thing):
            return False
        for number, letter in enumerate(letters):
            own = [(tick, loop) for tick, same, loop in thing if same == number]
            due = letter["tick"]
            if not letter["wait"]:
                if own:
                    return False
                continue
            for tick, loop in own:
                if tick != due or tick == letter["out"]:
                    return False
                due += loops[loop]
            if due != letter["out"]:
                return False
        return True

    def test_days_of_tables_are_days(self):
        for table, comers, comings in many_days():
            told = tuple(led_day(table, comings))
            kept = is_day(table.loops, comers, table.bound, comings, told)
            self.assertIs(kept, not meets_of(told))

    def test_other_days_than_those_of_tables(self):
        self.assertTrue(self.judge(self.RIGHT))
        self.assertEqual(self.RIGHT, tuple(day(T, 2, (2, 2, 2))))
        # The letter 5 goes through the loops the other way round, which the letter 4 then must not want.
        other = ((0, 1, 0), (1, 2, 0), (1, 3, 1), (2, 4, 0), (2, 5, 1), (3, 4, 0), (4, 5, 0))
        self.assertTrue(self.judge(other))
        self.assertTrue(is_day((1, 2), 2, 3, (), ()))
        self.assertTrue(is_day((40,), 4, 60, (1, 1, 0, 1), ()))
        self.assertFalse(is_day((40,), 4, 60, (2,), ()))
        self.assertTrue(is_day((1, 1), 4, 1, (4,), ((0, 1, 1),)))

    def test_layings_left_out_doubled_or_in_another_order(self):
        right = self.RIGHT
        self.assertFalse(self.judge(()))
        for at in range(len(right)):
            self.assertFalse(self.judge(right[:at] + right[at + 1:]))
            self.assertFalse(self.judge(right[:at] + right[at:at + 1] + right[at:]))
        for order in itertools.permutations(right):
            self.assertIs(self.judge(order), order == right)

    def test_layings_too_many(self):
        right = self.RIGHT
        for tick in range(-1, 7):
            for letter in range(-1, 8):
                for loop in range(-1, 4):
                    more = (tick, letter, loop)
                    self.assertFalse(self.judge(tuple(sorted(right + (more,)))))
        self.assertFalse(self.judge(right + tuple((tick, 5, 0) for tick in range(5, 9999))))

    def test_one_laying_changed(self):
        right = self.RIGHT
        for at in range(len(right)):
            for tick in range(-1, 6):
                for letter in range(-1, 7):
                    for loop in range(-1, 4):
                        thing = tuple(sorted(right[:at] + ((tick, letter, loop),) + right[at + 1:]))
                        told = self.is_day_by_definition((1, 2), 3, (2, 2, 2), thing)
                        self.assertIs(self.judge(thing), told)
                        self.assertIs(told, thing == right)

    def test_two_letters_in_one_loop_at_one_tick(self):
        self.assertFalse(is_day((1, 2), 3, 3, (3,), ((0, 1, 0), (0, 2, 0), (1, 2, 0))))
        self.assertTrue(is_day((1, 1), 3, 3, (3,), ((0, 1, 0), (0, 2, 1), (1, 2, 0))))
        self.assertTrue(is_day((1, 2), 3, 3, (3,), ((0, 1, 0), (0, 2, 1))))

    def test_a_letter_that_comes_back_too_late_or_too_soon(self):
        self.assertFalse(is_day((1, 2), 2, 3, (2,), ((0, 1, 1),)))
        self.assertFalse(is_day((1, 2), 3, 3, (3,), ((0, 1, 0), (0, 2, 1), (2, 2, 0))))
        self.assertFalse(is_day((1, 1, 2), 3, 3, (3,), ((0, 1, 0), (0, 2, 1))))
        self.assertFalse(is_day((1, 1, 2), 3, 3, (3,), ((0, 1, 0), (0, 2, 1), (2, 2, 0))))
        self.assertFalse(is_day((1, 1, 2), 3, 3, (3,), ((0, 1, 0), (0, 2, 1), (1, 2, 2))))

    def test_letters_that_are_turned_away_or_do_not_wait(self):
        right = ((0, 1, 0),)
        self.assertTrue(is_day((1, 2, 1), 4, 1, (4,), right))
        for letter in (0, 2, 3, 4):
            for loop in (1, 2):
                self.assertFalse(is_day((1, 2, 1), 4, 1, (4,), right + ((0, letter, loop),)))
                self.assertFalse(is_day((1, 2, 1), 4, 1, (4,), right + ((1, letter, loop),)))

    def test_random_layings_by_the_definition(self):
        chance = random.Random(1)
        seen = {True: 0, False: 0}
        for _ in range(40000):
            loops = chance.choice([(1,), (1, 1), (1, 2)])
            comings = chance.choice([(2,), (3,), (2, 1), (2, 2), (1, 2)])
            bound = chance.choice([1, 2, 3])
            thing = tuple(sorted(
                (chance.randint(0, 2), chance.randint(0, 3), chance.randint(0, 1)) for _ in range(chance.randint(0, 4))))
            told = self.is_day_by_definition(loops, bound, comings, thing) and len(set(thing)) == len(thing)
            self.assertIs(is_day(loops, 3, bound, comings, thing), told)
            seen[told] += 1
        self.assertGreater(min(seen.values()), 200)

    def test_flags_and_things_of_other_kinds(self):
        right = self.RIGHT
        wrong = odd_things() + [
            list(right), 3, "", [], tuple(map(list, right)), (list(right[0]),) + right[1:], right[:5] + (list(right[5]),),
            ((False, 1, 0),) + right[1:], ((0, True, 0),) + right[1:], ((0, 1, False),) + right[1:],
            ((0, 1),) + right[1:], ((0, 1, 0, 0),) + right[1:], (None,) + right[1:], ("010",) + right[1:],
            ((0, 1, "0"),) + right[1:], ((0, None, 0),) + right[1:], (((0,), 1, 0),) + right[1:], (T,) + right[1:],
            right[:5] + (T,), right[:5] + ((3, 5, T),), {0: right}, (right,), ((0, 1, 10 ** 59),) + right[1:],
        ]
        for thing in wrong:
            with self.subTest(thing=repr(thing)[:40]):
                self.assertIs(self.judge(thing), False)

    def test_days_at_the_limits(self):
        table = Table((1, 2, 4, 8, 16, 32), tuple(
            tuple(loop for loop in range(6) if wait >> loop & 1) for wait in range(1, 61)))
        comings = (2,) * 200 + (0, 1) * 100
        told = tuple(day(table, 2, comings))
        self.assertTrue(is_day(table.loops, 2, 60, comings, told))
        self.assertFalse(is_day(table.loops, 2, 60, comings, told[:-1]))
        self.assertFalse(is_day(table.loops, 2, 59, comings, told))

    def test_wrong_arguments_and_their_order(self):
        for thing in wrong_loops():
            with self.subTest(thing=repr(thing)[:40]):
                self.assertRaises(NoLoops, is_day, thing, 2, 1, (), ())
                self.assertRaises(NoLoops, is_day, thing, 5, 0, None, None)
        for thing in odd_numbers() + [0, 1, 5]:
            with self.subTest(thing=repr(thing)[:40]):
                self.assertRaises(NoComers, is_day, (1,), thing, 1, (), ())
                self.assertRaises(NoComers, is_day, (1,), thing, 0, None, None)
        for thing in odd_numbers() + [0, 61]:
            with self.subTest(thing=repr(thing)[:40]):
                self.assertRaises(NoBound, is_day, (1,), 2, thing, (), ())
                self.assertRaises(NoBound, is_day, (1,), 2, thing, None, None)
        for thing in WRONG_COMINGS:
            with self.subTest(thing=repr(thing)[:40]):
                self.assertRaises(NoComings, is_day, (1,), 2, 1, thing, ())
                self.assertRaises(NoComings, is_day, (1,), 2, 1, thing, None)


if __name__ == "__main__":
    unittest.main()
