import itertools
import random
import unittest

from common import V, led_line, odd_numbers, odd_tuples, wrong_loops
from loopstore.days import day, is_day
from loopstore.errors import NoBound, NoComers, NoComings, NoLoops, TooMany
from loopstore.knowing import ahead
from loopstore.lines import waits
from loopstore.sizes import flood, reach

# Found by long trials: days that are far to seek, and comings for which there is none although no loop is full.
HARD = [
    ((1, 2, 2, 4, 4), 4, (1, 3, 3, 4, 1, 2, 3, 0, 3, 0, 2, 0, 2), True),
    ((1, 2, 3, 4, 5), 4, (4, 4, 4, 1, 4, 0, 3, 0, 4), True),
    ((1, 2, 2, 3, 5), 4, (3, 4, 2, 1, 4, 4, 1, 0, 0, 4, 1), True),
    ((1, 2, 2, 3, 4, 4), 4, (4, 4, 3, 0, 4, 0, 4, 1, 4), True),
    ((1, 1, 2, 3, 4, 6), 4, (4, 4, 0, 4, 4, 4, 0, 4), True),
    ((1, 1, 1, 2, 2, 2, 4, 4), 4, (0, 4, 4, 4, 0, 4, 4, 4), True),
    ((1, 2, 2, 2, 2, 4, 5), 4, (4, 3, 4, 4, 4, 1, 4), False),
    ((1, 2, 2, 2, 2, 2, 4, 4), 4, (4, 3, 4, 4, 4, 1, 4), False),
    ((1, 1, 3, 4, 4, 4), 4, (4, 1, 4, 4, 4, 1, 0, 4, 0, 2), False),
    ((1, 2, 4, 4, 10), 3, (3, 3, 3, 0, 3, 3, 3, 3, 0, 3), False),
    ((1, 1, 3, 3, 3), 4, (2, 4, 1, 4, 4, 1), False),
]


def can_be_led(loops, bound, comings):
    """Whether there is a day, by all states that any switching comes to, tick by tick."""
    letters = [letter for letter in led_line(bound, comings) if letter["wait"]]
    states = {()}
    last = max([letter["out"] for letter in letters], default=0)
    for tick in range(last):
        following = set()
        for state in states:
            backs = dict(state)
            here = [at for at, letter in enumerate(letters) if backs.get(at, letter["tick"]) == tick]
            here = [at for at in here if letters[at]["out"] > tick]
            for some in itertools.permutations(range(len(loops)), len(here)):
                later = dict(backs)
                later.update({at: tick + loops[loop] for at, loop in zip(here, some)})
                if all(back <= letters[at]["out"] for at, back in later.items()):
                    following.add(tuple(sorted((at, back) for at, back in later.items() if back > tick)))
        states = following
    return len(states) > 0


class AheadTest(unittest.TestCase):
    def check(self, loops, comers, bound, comings):
        told = ahead(loops, comers, bound, comings)
        if told is not None:
            self.assertIs(type(told), tuple)
            self.assertIs(is_day(loops, comers, bound, comings, told), True)
        return told is not None

    def test_nobody_has_to_wait(self):
        self.assertEqual(ahead((40,), 2, 1, ()), ())
        self.assertEqual(ahead((40,), 2, 60, (1,) * 24), ())
        self.assertEqual(ahead((40,), 4, 60, (0,) * 400), ())

    def test_plain_days(self):
        self.assertEqual(ahead((1,), 2, 1, (2, 1)), ((0, 1, 0), (1, 2, 0)))
        self.assertEqual(ahead((2, 1), 2, 1, (2,)), ((0, 1, 1),))
        self.assertIsNone(ahead((2,), 2, 1, (2,)))
        self.assertIsNone(ahead((1,), 2, 2, (2, 2)))
        self.assertTrue(self.check((1,), 2, 1, (2, 2)))
        self.assertTrue(self.check((1, 2), 2, 3, (2,) * 12))
        self.assertIsNone(ahead((1, 2), 2, 4, (2,) * 12))

    def test_all_comings_against_all_switchings(self):
        seen = {True: 0, False: 0}
        for loops in ((1,), (2,), (1, 1), (1, 2), (2, 1), (1, 3), (1, 2, 2), (1, 1, 3), (1, 2, 3)):
            for comings in itertools.product(range(4), repeat=4):
                kept = self.check(loops, 3, 5, comings)
                self.assertIs(kept, can_be_led(loops, 5, comings))
                seen[kept] += 1
        self.assertGreater(min(seen.values()), 200)

    def test_random_comings_against_all_switchings(self):
        chance = random.Random(7)
        seen = {True: 0, False: 0}
        for _ in range(1500):
            loops = tuple([1] + [chance.randint(1, 4) for _ in range(chance.randint(0, 3))])
            comers = chance.choice([2, 3, 4])
            bound = chance.choice([1, 2, 3, 4, 5, 6, 60])
            comings = tuple(chance.randint(0, comers) for _ in range(chance.randint(3, 9)))
            if sum(comings) <= 16 and max([wait or 0 for wait in waits(comers, bound, comings)], default=0) <= 6:
                kept = self.check(loops, comers, bound, comings)
                self.assertIs(kept, can_be_led(loops, bound, comings))
                seen[kept] += 1
        self.assertGreater(min(seen.values()), 200)

    def test_none_though_no_loop_is_full(self):
        # At no tick do more letters wait than fit into the loops, but together they find no way.
        self.assertFalse(can_be_led((1, 2, 2), 4, (4, 0, 4)))
        self.assertIsNone(ahead((1, 2, 2), 4, 4, (4, 0, 4)))

    def test_comings_with_pauses_and_of_400_ticks(self):
        comings = (2, 2, 0, 0, 0, 3) + (0,) * 380 + (3, 2, 0, 0, 0, 0, 0, 0, 0, 0, 2, 2, 2, 1)
        self.assertEqual(len(comings), 400)
        self.assertTrue(self.check((1, 2, 3), 3, 60, comings))
        self.assertTrue(self.check((3, 2, 1, 1), 3, 60, comings))
        self.assertIsNone(ahead((1, 1), 3, 60, comings))
        self.assertTrue(self.check((1, 2), 2, 60, ((2, 2) + (0,) * 31) * 6 + (0,) * 202))

    def test_the_last_busy_time_alone_is_without_a_day(self):
        easy = (3, 2, 1, 0, 0, 0, 0, 0)
        self.assertTrue(self.check((1, 1, 2, 2, 3), 4, 60, easy * 2))
        self.assertIsNone(ahead((1, 2, 2), 4, 4, (2, 1, 0, 0) * 5 + (4, 0, 4)))
        self.assertTrue(self.check((1, 2, 2), 4, 4, (2, 1, 0, 0) * 5 + (3, 0, 3)))

    def test_bounds_up_to_sixty_and_up_to_eight_loops(self):
        doubling = (1, 2, 4, 8, 16, 32, 40, 40)
        for bound in (1, 2, 7, 12, 59, 60):
            self.assertTrue(self.check(doubling, 2, bound, (2,) * 12))
            self.assertTrue(self.check(doubling[::-1], 2, bound, (2, 1) * 8))
        self.assertTrue(self.check((1, 1, 2, 2, 3, 3, 4, 5), 4, 60, (4,) * 6))
        self.assertTrue(self.check((1, 1, 1, 2, 3, 4, 5, 6), 4, 60, (4, 4, 0, 4, 4, 0, 4, 4)))
        self.assertTrue(self.check((1, 1, 1, 1, 1, 1, 1, 1), 2, 60, (2,) * 8 + (1,) * 8))
        self.assertIsNone(ahead((1, 1, 1, 1, 1, 1, 1, 1), 2, 60, (2,) * 9))
        self.assertTrue(self.check((1, 1, 1, 1, 1, 1, 1, 1), 2, 8, (2,) * 12))
        self.assertIsNone(ahead((1,) * 7, 4, 60, (4, 4, 4, 4, 4, 4)))

    def test_hard_days(self):
        for loops, comers, comings, kept in HARD:
            with self.subTest(loops=loops, comings=comings):
                self.assertIs(self.check(loops, comers, 60, comings), kept)

    def test_the_day_of_a_safe_table_is_there(self):
        for comings in itertools.product(range(3), repeat=6):
            self.assertTrue(day(V, 2, comings) or sum(waits(2, 5, comings)) == 0)
            self.assertTrue(self.check(V.loops, 2, 5, comings))

    def test_nobody_keeps_a_flood(self):
        for loops in ((1,), (1, 2), (1, 1, 3), (1, 2, 4), (2, 2), (1, 2, 2, 3)):
            self.assertIsNone(ahead(loops, 2, reach(loops) + 1, flood(loops)))

    def test_24_letters_and_25(self):
        self.assertTrue(self.check((1, 2), 2, 3, (2,) * 12))
        self.assertEqual(ahead((1,), 2, 1, (1,) * 24), ())
        for comings in ((1,) * 25, (2,) * 12 + (1,), (1,) * 400, (2,) * 400, (0,) * 375 + (1,) * 25):
            with self.assertRaises(TooMany) as caught:
                ahead((1,), 2, 1, comings)
            self.assertEqual(caught.exception.most, 24)
        # Letters that are turned away come, too.
        self.assertTrue(self.check((1,), 4, 1, (4,) * 6))
        self.assertRaises(TooMany, ahead, (1,), 4, 1, (4,) * 6 + (1,))

    def test_wrong_arguments_and_their_order(self):
        for thing in wrong_loops():
            with self.subTest(thing=repr(thing)[:40]):
                self.assertRaises(NoLoops, ahead, thing, 2, 1, ())
                self.assertRaises(NoLoops, ahead, thing, 5, 0, None)
        for thing in odd_numbers() + [0, 1, 5]:
            with self.subTest(thing=repr(thing)[:40]):
                self.assertRaises(NoComers, ahead, (1,), thing, 1, ())
                self.assertRaises(NoComers, ahead, (1,), thing, 0, None)
        for thing in odd_numbers() + [0, 61]:
            with self.subTest(thing=repr(thing)[:40]):
                self.assertRaises(NoBound, ahead, (1,), 2, thing, ())
                self.assertRaises(NoBound, ahead, (1,), 2, thing, None)
        for thing in [wrong for wrong in odd_tuples() if wrong != ()] + [(3,), (1,) * 401, (0,) * 401, (2, True)]:
            with self.subTest(thing=repr(thing)[:40]):
                self.assertRaises(NoComings, ahead, (1,), 2, 1, thing)
        self.assertRaises(NoComings, ahead, (1,), 2, 1, (1,) * 25 + (3,))

    def test_equal_calls_give_equal_answers(self):
        for loops, comers, comings, _ in HARD[4:6]:
            self.assertEqual(ahead(loops, comers, 60, comings), ahead(loops, comers, 60, comings))


if __name__ == "__main__":
    unittest.main()
