import itertools
import random
import unittest
from fractions import Fraction

from common import assert_errors, led_line, odd_tuples, random_comings, wrong_bounds, wrong_comers
from loopstore.errors import NoBound, NoComers, NoLong
from loopstore.lines import lines, outs, waits
from loopstore.longs import long_counts, long_line, lost_share, settled

HUGE = 10 ** 30


def led_long(bound, long):
    """The line, and the letters that came, have gone out and were turned away, by a line that is a list."""
    comings = tuple(number for part, times in long for number in part * times)
    letters = led_line(bound, comings)
    gone = [letter for letter in letters if letter["wait"] is not None and letter["out"] < len(comings)]
    away = [letter for letter in letters if letter["wait"] is None]
    return len(letters) - len(gone) - len(away), (len(letters), len(gone), len(away))


def led_rounds(bound, comings, rounds):
    """The line behind each of so many rounds, with none at first, and the letters turned away in each."""
    letters = led_line(bound, comings * rounds)
    many = sum(comings)
    away = [len([1 for letter in letters[at * many:(at + 1) * many] if letter["wait"] is None]) for at in range(rounds)]
    behind = [0]
    for at in range(1, rounds + 1):
        last = at * len(comings)
        behind.append(len([1 for one in letters if one["wait"] is not None and one["tick"] < last <= one["out"]]))
    return behind, away


class LongTest(unittest.TestCase):
    def test_plain_long_comings(self):
        self.assertEqual(long_line(2, 3, (((2,), HUGE),)), 3)
        self.assertEqual(long_counts(2, 3, (((2,), HUGE),)), (2 * HUGE, HUGE, HUGE - 3))
        self.assertEqual(long_counts(2, 3, (((1,), HUGE),)), (HUGE, HUGE, 0))
        self.assertEqual(long_counts(2, 3, (((0,), HUGE),)), (0, 0, 0))
        self.assertEqual(long_line(2, 3, (((2, 0), HUGE),)), 0)
        self.assertEqual(long_counts(4, 60, (((4,) * 60, HUGE),)), (240 * HUGE, 60 * HUGE, 180 * HUGE - 60))

    def test_pairs_one_behind_another(self):
        long = (((2,), HUGE), ((0,), 2), ((1,), HUGE), ((2,), 1))
        self.assertEqual(long_line(2, 3, long), 2)
        self.assertEqual(long_counts(2, 3, long), (3 * HUGE + 2, 2 * HUGE + 3, HUGE - 3))
        self.assertEqual(long_line(2, 3, long[:3]), 1)
        self.assertEqual(long_line(2, 3, long[:2]), 1)
        self.assertEqual(long_line(2, 60, (((2,), 60), ((0, 1), 7), ((0,), HUGE))), 0)

    def test_nothing_comes(self):
        for long in ((), (((), HUGE),), (((), 0),), (((2, 2), 0),), (((), 5), ((2, 2), 0))):
            self.assertEqual(long_line(2, 1, long), 0)
            self.assertEqual(long_counts(2, 1, long), (0, 0, 0))
        # Comings of no tick leave the line as it is, however often.
        self.assertEqual(long_line(2, 5, (((2,), 3), ((), HUGE))), 3)
        self.assertEqual(long_counts(2, 5, (((2,), 3), ((), HUGE), ((0,), 1))), (6, 4, 0))

    def test_what_is_short_enough_to_be_led_tick_by_tick(self):
        chance = random.Random(20)
        for _ in range(600):
            comers = chance.choice([2, 3, 4])
            bound = chance.choice([1, 2, 3, 5, 9, 30, 60])
            long = tuple((random_comings(chance, comers, chance.randint(0, 6)), chance.choice([0, 1, 2, 3, 8, 20]))
                         for _ in range(chance.randint(0, 6)))
            line, counts = led_long(bound, long)
            self.assertEqual(long_line(comers, bound, long), line)
            self.assertEqual(long_counts(comers, bound, long), counts)
            comings = tuple(number for part, times in long for number in part * times)
            if 1 <= len(comings) <= 400:
                self.assertEqual(lines(comers, bound, comings)[-1], line)
                self.assertEqual(waits(comers, bound, comings).count(None), counts[2])
                gone = [letter for tick, letter in outs(comers, bound, comings) if tick < len(comings)]
                self.assertEqual(len(gone), counts[1])

    def test_one_time_more(self):
        # From some time on, one round more adds the same to all three.
        chance = random.Random(21)
        for _ in range(100):
            part = random_comings(chance, 3, chance.randint(1, 60))
            bound = chance.randint(1, 60)
            first, second, third = [long_counts(3, bound, (((3,), 7), (part, HUGE - more))) for more in (0, 1, 2)]
            self.assertEqual([a - b for a, b in zip(first, second)], [a - b for a, b in zip(second, third)])
            self.assertEqual(long_line(3, bound, (((3,), 7), (part, HUGE))), first[0] - first[1] - first[2])

    def test_limits(self):
        self.assertEqual(long_line(2, 1, (((2,) * 60, 1),) * 20), 1)
        self.assertEqual(long_counts(2, 60, (((2,), 1),) * 20), (40, 20, 0))
        self.assertEqual(long_counts(2, 60, (((0, 2), HUGE),) * 20), (40 * HUGE, 40 * HUGE - 1, 0))
        self.assertIs(type(long_counts(2, 1, ())), tuple)

    def test_wrong_arguments_and_their_order(self):
        pair = ((2, 1), 3)
        wrong = [thing for thing in odd_tuples() if thing != ()] + [
            [pair], (pair,) * 21, (list(pair),), ((),), ((2,), 3), (pair, None), ((pair,),), (pair + (1,),), (((2, 1),),),
            (((2, 1), -1),), (((2, 1), HUGE + 1),), (((2, 1), True),), (((2, 1), None),), (((2, 1), "3"),),
            (([2, 1], 3),), (((1,) * 61, 3),), (((2, 5), 3),), (((2, -1), 3),), (((2, True), 3),), ((None, 3),),
            ((2, 3),), {pair: 3}, (((2, 1), False),), (((1,) * 61, 0),)]
        for function in (long_line, long_counts):
            assert_errors(self, function, (4, 60, (pair,) * 20), [
                (0, NoComers, wrong_comers()), (1, NoBound, wrong_bounds()), (2, NoLong, wrong)])
            self.assertRaises(NoLong, function, 2, 60, (((3,), 1),))
            function(3, 60, (((3,), 0), ((1,) * 60, HUGE)))


class SettledTest(unittest.TestCase):
    def test_at_once(self):
        for comings in ((0,), (1,), (2, 0), (1, 1, 1), (4, 0, 0, 0), (0,) * 60):
            self.assertEqual(settled(4, 60, comings), (0, 0))
            self.assertEqual(lost_share(4, 60, comings), (0, 1))

    def test_behind_one_round(self):
        self.assertEqual(settled(2, 1, (2,)), (1, 1))
        self.assertEqual(lost_share(2, 1, (2,)), (1, 2))
        self.assertEqual(settled(2, 5, (0, 2)), (1, 1))
        self.assertEqual(lost_share(2, 5, (0, 2)), (0, 1))

    def test_behind_many_rounds(self):
        self.assertEqual(settled(2, 60, (2,)), (60, 60))
        self.assertEqual(lost_share(2, 60, (2,)), (1, 2))
        self.assertEqual(settled(2, 60, (2,) + (1,) * 59), (60, 60))
        self.assertEqual(lost_share(2, 60, (2,) + (1,) * 59), (1, 61))
        self.assertEqual(settled(4, 60, (4,)), (20, 60))
        self.assertEqual(lost_share(4, 60, (4,)), (3, 4))

    def test_lowest_terms(self):
        # Of nine letters three are turned away in each round.
        self.assertEqual(lost_share(3, 1, (3, 0, 3, 0, 3, 0)), (1, 3))
        self.assertEqual(lost_share(4, 1, (4, 0, 0)), (1, 2))
        self.assertEqual(lost_share(4, 2, (4, 0, 0)), (1, 4))

    def test_all_short_rounds(self):
        for comers, ticks in ((2, 4), (3, 3), (4, 2)):
            for many in range(1, ticks + 1):
                for comings in itertools.product(range(comers + 1), repeat=many):
                    for bound in (1, 2, 5):
                        self.assert_settled(comers, bound, comings)

    def test_chance(self):
        chance = random.Random(22)
        rounds = []
        for _ in range(60):
            comers = chance.choice([2, 3, 4])
            comings = random_comings(chance, comers, chance.choice([1, 2, 7, 60]))
            rounds.append(self.assert_settled(comers, chance.choice([1, 3, 20, 59, 60]), comings))
        self.assertGreater(max(rounds), 20)
        self.assertEqual(min(rounds), 0)

    def assert_settled(self, comers, bound, comings):
        behind, away = led_rounds(bound, comings, bound + 3)
        # The line behind a round never goes down.
        self.assertEqual(behind, sorted(behind))
        self.assertEqual(settled(comers, bound, comings), (behind.index(behind[-1]), behind[-1]))
        top, bottom = lost_share(comers, bound, comings)
        share = Fraction(away[-1], sum(comings)) if sum(comings) else Fraction(0)
        self.assertEqual((top, bottom), (share.numerator, share.denominator))
        self.assertEqual(long_line(comers, bound, ((comings, HUGE),)), behind[-1])
        return behind.index(behind[-1])

    def test_wrong_arguments_and_their_order(self):
        wrong = odd_tuples() + [(1,) * 61, (5,), (-1,), (2, True), [1, 2], (1, None), ((1,),), ((1,), 2), {1: 1}, ()]
        for function in (settled, lost_share):
            assert_errors(self, function, (4, 60, (4,) * 60), [
                (0, NoComers, wrong_comers()), (1, NoBound, wrong_bounds()), (2, NoLong, wrong)])
            self.assertRaises(NoLong, function, 2, 60, (3,))
            self.assertIs(type(function(3, 60, (3,))), tuple)


if __name__ == "__main__":
    unittest.main()
