import functools
import itertools
import random
import unittest

from common import T, assert_errors, nested, odd_things, wrong_bounds, wrong_comers, wrong_loops
from loopstore.bars import barred, is_barred
from loopstore.errors import NoBound, NoComers, NoLoops, TooMany
from loopstore.search import friends, greatest_table, rows_for, table_for
from loopstore.sizes import reach

SEVEN = (1, 2, 3, 4, 5, 6, 7)
# For (1, 2) and 3 comers: the rows for 3 are (0, 1), no friend of (0,) for 1, and (1, 0), no friend of (1,) for 2.
RIGHT = (1, ((2, ((3, (1, 2)),)),))


known_rows = functools.lru_cache(None)(rows_for)
known_friends = functools.lru_cache(None)(friends)


def is_bar(loops, comers, bound, thing, asked):
    """By the definition, for things that are pairs of a wait and a tuple of things or integers alone."""
    wait, parts = thing
    if not 1 <= wait <= bound or wait in asked or len(parts) != len(known_rows(loops, wait)):
        return False
    for row, part in zip(known_rows(loops, wait), parts):
        if isinstance(part, tuple):
            if not is_bar(loops, comers, bound, part, {**asked, wait: row}):
                return False
        elif part not in asked or known_friends(loops, comers, asked[part], row):
            return False
    return True


def changed(chance, thing):
    """A bar with another wait, another integer or part, a part more or a part less somewhere."""
    wait, parts = thing
    if parts and chance.random() < 0.7:
        at = chance.randrange(len(parts))
        part = changed(chance, parts[at]) if isinstance(parts[at], tuple) else chance.randint(-1, 6)
        return wait, parts[:at] + (part,) + parts[at + 1:]
    other = [(wait + 1, parts), (wait - 1, parts), (wait, parts + (1,)), (wait, parts[:-1]), (wait, parts[::-1])]
    return chance.choice(other + [1, (1, ()), (wait, (1,) * len(parts)), (wait, (thing,) * len(parts))])


class BarredTest(unittest.TestCase):
    def test_plain_loops(self):
        self.assertEqual(barred((2,), 2, 1), (1, ()))
        self.assertIsNone(barred((1, 2), 2, 3))
        self.assertTrue(is_bar((1, 2), 3, 3, barred((1, 2), 3, 3), {}))
        self.assertTrue(is_bar((1, 2), 2, 4, barred((1, 2), 2, 4), {}))
        self.assertIsNone(barred((1,), 4, 1))

    def test_the_fourth_fact(self):
        kept = {True: 0, False: 0}
        for many in (1, 2, 3, 4):
            for loops in itertools.combinations_with_replacement(range(1, 5), many):
                for comers in (2, 3, 4):
                    for bound in range(1, min(reach(loops) + 2, 12)):
                        bar = barred(loops, comers, bound)
                        self.assertIs(bar is None, table_for(loops, comers, bound) is not None)
                        if bar is not None:
                            self.assertTrue(is_bar(loops, comers, bound, bar, {}))
                            self.assertIs(is_barred(loops, comers, bound, bar), True)
                        kept[bar is None] += 1
        self.assertGreater(min(kept.values()), 200)

    def test_most_loops_and_the_greatest_bound(self):
        self.assertIsNone(barred((1, 2, 4, 8, 16, 29), 2, 60))
        for loops, comers, bound in (
                ((1, 2, 4, 8, 16, 28), 2, 60), ((1, 2, 4, 8, 16, 29), 3, 60), ((40,) * 6, 4, 1), ((1, 2, 3, 3, 3, 7), 3, 19),
                ((1, 1, 2, 2, 3, 4), 4, 13), ((1, 1, 1, 1, 1, 1), 4, 7), ((2, 1, 6, 3, 12, 24), 4, 48)):
            self.assertGreater(bound, greatest_table(loops, comers))
            bar = barred(loops, comers, bound)
            self.assertIs(is_barred(loops, comers, bound, bar), True)

    def test_a_bar_for_a_bound_is_one_for_greater_bounds(self):
        bar = barred((1, 1, 1, 3), 3, 6)
        for bound in (6, 7, 60):
            self.assertIs(is_barred((1, 1, 1, 3), 3, bound, bar), True)
        self.assertIs(is_barred((1, 1, 1, 3), 3, 5, bar), False)

    def test_equal_calls_give_equal_answers(self):
        for bound in (9, 10, 60):
            self.assertEqual(barred((1, 1, 1, 3, 3), 3, bound), barred((1, 1, 1, 3, 3), 3, bound))

    def test_wrong_arguments_and_their_order(self):
        assert_errors(self, barred, ((1, 2), 3, 3), [
            (0, NoLoops, wrong_loops()), (1, NoComers, wrong_comers()), (2, NoBound, wrong_bounds())])
        with self.assertRaises(TooMany) as caught:
            barred(SEVEN, 2, 3)
        self.assertEqual(caught.exception.most, 6)
        self.assertRaises(NoBound, barred, SEVEN, 2, 61)


class IsBarredTest(unittest.TestCase):
    def judge(self, thing):
        before = repr(thing)
        told = is_barred((1, 2), 3, 3, thing)
        self.assertEqual(repr(thing), before)
        return told

    def test_plain_bars(self):
        self.assertIs(self.judge(RIGHT), True)
        # Asked in another order it is one, too.
        self.assertIs(self.judge((3, ((1, (3,)), (2, (3,))))), True)
        self.assertIs(self.judge((2, ((3, ((1, (3,)), 2)),))), True)
        self.assertIs(is_barred((1, 2), 2, 4, (4, ())), True)
        self.assertIs(is_barred((1, 2), 2, 3, (4, ())), False)
        self.assertIs(is_barred((2,), 4, 1, (1, ())), True)

    def test_a_wait_asked_twice(self):
        self.assertIs(self.judge((1, ((1, ((2, ((3, (1, 2)),)),)),))), False)
        self.assertIs(self.judge((1, ((2, ((2, ((3, (1, 2)),)),)),))), False)
        self.assertIs(self.judge((3, ((3, (3, 3)), (2, (3,))))), False)

    def test_too_few_or_too_many_parts(self):
        for parts in ((), (1,), (1, 2, 1), (1, 2, 2), (2, 1), (1, 1), (2, 2)):
            self.assertIs(self.judge((1, ((2, ((3, parts),)),))), False)
        self.assertIs(self.judge((1, ())), False)
        self.assertIs(self.judge((1, RIGHT[1] * 2)), False)

    def test_an_integer_that_was_not_asked_ahead_on_the_way(self):
        self.assertIs(self.judge((2, ((3, (1, 2)),))), False)
        self.assertIs(self.judge((3, ((1, (3,)), 2))), False)
        self.assertIs(self.judge((3, ((1, (3,)), 1))), False)
        for part in (0, 4, -1, 60, 10 ** 59, 3):
            self.assertIs(self.judge((1, ((2, ((3, (part, 2)),)),))), False)
            self.assertIs(self.judge((1, ((2, ((3, (1, part)),)),))), False)

    def test_an_integer_whose_row_is_a_friend(self):
        self.assertIs(self.judge((1, (1,))), False)
        self.assertIs(self.judge((1, ((2, (1,)),))), False)
        self.assertIs(self.judge((1, ((2, ((3, (2, 1)),)),))), False)

    def test_waits_out_of_range(self):
        for wait in (0, -1, 4, 10 ** 59):
            self.assertIs(self.judge((wait, ())), False)
            self.assertIs(self.judge((wait, RIGHT[1])), False)
        self.assertIs(is_barred((1, 2), 3, 60, (60, ())), True)
        self.assertIs(is_barred((1, 2), 3, 60, (61, ())), False)

    def test_flags_and_things_of_other_kinds(self):
        wrong = odd_things() + [
            0, 1, (), (1,), [], [1, RIGHT[1]], (1, list(RIGHT[1])), (1, RIGHT[1], 0), (True, RIGHT[1]), (RIGHT[1], 1),
            (1, ((2, ((3, (True, 2)),)),)), (1, ((2, ((3, (1, None)),)),)), (1, ((2, ((3, [1, 2]),)),)), (1, (None,)),
            (1, ([2, ((3, (1, 2)),)],)), (1, ((2, ((3, ("1", "2")),)),)), (None, ()), ("1", RIGHT[1]), (1, None), (1, 1),
            (1, {0: RIGHT[1][0]}), (1, ((2, (T,)),)), (T, RIGHT[1]), ((1,), RIGHT[1]), RIGHT[1], (1, RIGHT[1][0]),
            (1, ((2, (nested(tuple, 36, 1),)),)), (1, (1,) * 9990), (1, ((2, ((3, ((1, ()), 2)),)),)),
        ]
        for thing in wrong:
            with self.subTest(thing=repr(thing)[:40]):
                self.assertIs(self.judge(thing), False)

    def test_changed_bars_by_the_definition(self):
        chance = random.Random(5)
        kept = {True: 0, False: 0}
        for loops, comers, bound in (((1, 2), 3, 3), ((1, 1, 1, 3), 3, 6), ((1, 1, 2), 4, 4), ((1, 2, 2), 3, 5)):
            bar = barred(loops, comers, bound)
            for _ in range(1000):
                thing = changed(chance, bar)
                if isinstance(thing, tuple):
                    told = is_barred(loops, comers, bound, thing)
                    self.assertIs(told, is_bar(loops, comers, bound, thing, {}))
                    kept[told] += 1
        self.assertGreater(min(kept.values()), 100)

    def test_bars_of_other_loops(self):
        self.assertIs(is_barred((2, 1), 3, 3, RIGHT), False)
        self.assertIs(is_barred((1, 2), 2, 3, RIGHT), False)
        self.assertIs(is_barred((1, 2, 3), 3, 3, RIGHT), False)
        self.assertIs(is_barred((1, 2), 4, 3, RIGHT), True)

    def test_a_bar_with_all_waits_asked(self):
        thing = (60, ())
        for wait in range(1, 2):
            thing = (wait, (thing,))
        self.assertIs(is_barred((1, 40), 2, 60, thing), True)
        # Each of these waits has just one row, so the bar is as deep as it can be.
        loops = (1, 2, 4, 8, 16, 28)
        thing = (60, ())
        for wait in [wait for wait in range(1, 60) if len(rows_for(loops, wait)) == 1]:
            thing = (wait, (thing,))
        self.assertIs(is_barred(loops, 2, 60, thing), True)

    def test_wrong_arguments_and_their_order(self):
        assert_errors(self, is_barred, ((1, 2), 3, 3, RIGHT), [
            (0, NoLoops, wrong_loops()), (1, NoComers, wrong_comers()), (2, NoBound, wrong_bounds())])
        for thing in (None, RIGHT, T):
            with self.assertRaises(TooMany) as caught:
                is_barred(SEVEN, 2, 3, thing)
            self.assertEqual(caught.exception.most, 6)
            self.assertRaises(NoBound, is_barred, SEVEN, 2, 0, thing)


if __name__ == "__main__":
    unittest.main()
