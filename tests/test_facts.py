"""What the modules tell must agree, where the document says so."""

import itertools
import random
import unittest

from common import T, U, V, meets_of, random_comings, random_table
from loopstore.bars import barred, is_barred
from loopstore.benches import Bench
from loopstore.changes import changed_day, crossing, crossings
from loopstore.clashes import clashes, safe
from loopstore.days import day, inside, is_day
from loopstore.doubling import doubling, doubling_lists, doubling_table
from loopstore.errors import Meet, TooMany
from loopstore.games import closed, closed_of, greatest_kept, is_closed, is_lost, lost
from loopstore.knowing import ahead
from loopstore.lines import lines, outs, waits
from loopstore.longs import long_counts, long_line
from loopstore.lots import cheapest, lightest, needed, needed_tables
from loopstore.meetings import is_meeting, meeting
from loopstore.players import Caller, Switch, led
from loopstore.rates import is_rate_paper, rate, rate_paper, share
from loopstore.search import count_tables, greatest_table, table_for
from loopstore.sizes import fewest, flood, lengths, reach
from loopstore.stores import Store
from loopstore.tables import Table
from loopstore.texts import day_text, read_day, read_table, table_text
from loopstore.trees import Tree, is_tree_meeting, tree_comings, tree_meeting


def small_loops():
    for many in (1, 2, 3):
        yield from itertools.combinations_with_replacement(range(1, 5), many)
    yield from ((1, 1, 2, 3), (1, 2, 2, 3), (1, 2, 4, 4), (2, 2, 3, 3))


def many_tables():
    chance = random.Random(40)
    loops = [(1,), (1, 2), (2, 1), (1, 1, 2), (1, 1, 3), (1, 2, 4)]
    return [T, U, V] + [random_table(chance, chance.choice(loops), chance.randint(1, 6)) for _ in range(60)]


class SizesTest(unittest.TestCase):
    def test_greatest_table_greatest_kept_and_reach(self):
        # Four loops of these with comers 2 have more than 2000 stands for some bound that is looked at.
        self.assertRaises(TooMany, greatest_kept, (1, 2, 4, 4), 2)
        for loops in small_loops():
            for comers in (2, 3, 4):
                if (loops, comers) == ((1, 2, 4, 4), 2):
                    continue
                table, kept, most = greatest_table(loops, comers), greatest_kept(loops, comers), reach(loops)
                self.assertTrue(0 <= table <= kept <= most <= 2 ** len(loops) - 1)
                for bound in range(1, min(kept + 2, 60)):
                    self.assertIs(closed(loops, comers, bound) is None, bound > kept)
                    self.assertIs(lost(loops, comers, bound) is None, bound <= kept)
                    self.assertIs(table_for(loops, comers, bound) is None, bound > table)
                    self.assertIs(barred(loops, comers, bound) is None, bound <= table)
                    self.assertIs(needed(loops, comers, bound) == [], bound > kept)
                    self.assertIs(needed_tables(loops, comers, bound) == [], bound > table)
                    self.assertIs(lightest(loops, comers, bound) is None, bound > table)
                    self.assertIs(count_tables(loops, comers, bound) == 0, bound > table)

    def test_the_second_fact(self):
        for loops in small_loops():
            most = reach(loops)
            if 2 * (most + 1) <= 24:
                self.assertIsNone(ahead(loops, 2, most + 1, flood(loops)))
                self.assertIsNone(ahead(loops, 2, 60, flood(loops)))

    def test_the_third_fact(self):
        for total in range(1, 17):
            for loops in doubling_lists(total):
                self.assertIs(doubling(loops), True)
                self.assertEqual(reach(loops), total)
                table = doubling_table(loops)
                self.assertEqual(table.bound, total)
                self.assertIs(safe(table, 2), True)
                if len(loops) <= 4:
                    self.assertEqual(greatest_table(loops, 2), total)
                if total <= 7:
                    self.assertEqual(greatest_kept(loops, 2), total)

    def test_the_fewest_loops(self):
        for bound in range(1, 61):
            self.assertEqual(len(lengths(bound)), fewest(bound))
            self.assertGreaterEqual(reach(lengths(bound)), bound)
            self.assertLess(2 ** (fewest(bound) - 1) - 1, bound)
        for bound in (1, 2, 3, 5, 7, 20, 60):
            self.assertIsNotNone(table_for(lengths(bound), 2, bound))
            self.assertEqual(cheapest({length: 1 for length in lengths(bound)}, 2, bound)[0], fewest(bound))

    def test_papers_hold(self):
        for loops in small_loops():
            for comers, bound in ((2, 2), (2, 4), (3, 3), (4, 2)):
                paper = barred(loops, comers, bound)
                self.assertIs(is_barred(loops, comers, bound, paper), paper is not None)
                paper = closed(loops, comers, bound)
                self.assertIs(is_closed(loops, comers, bound, paper), paper is not None)
                paper = lost(loops, comers, bound)
                self.assertIs(is_lost(loops, comers, bound, paper), paper is not None)


class TablesTest(unittest.TestCase):
    def test_the_first_the_eighth_and_the_ninth_fact(self):
        for table in many_tables():
            for comers in (2, 3, 4):
                kept = safe(table, comers)
                self.assertIs(clashes(table, comers) == [], kept)
                found = meeting(table, comers)
                self.assertIs(found is None, kept)
                self.assertIs(is_meeting(table, comers, found), not kept)
                tree = Tree(((table, (None,) * comers),))
                found = tree_meeting(tree)
                self.assertIs(found is None, kept)
                self.assertIs(is_tree_meeting(tree, found), not kept)
                self.assertIs(crossing(table, table, comers) is None, crossings(table, table, comers) == [])
                if kept:
                    self.assertEqual(crossings(table, table, comers), [])
                bench = Bench(table.loops, comers)
                for row in table.rows:
                    bench.put(row)
                self.assertEqual(bench.table(), table)
                self.assertIs(bench.clashes() == [], kept)

    def test_texts(self):
        for table in many_tables():
            self.assertEqual(read_table(table_text(table)), table)

    def test_closed_lists_of_tables(self):
        for table in many_tables():
            for comers in (2, 3):
                plan = closed_of(table, comers)
                self.assertIs(plan is None, not safe(table, comers))
                if plan is not None:
                    self.assertIs(is_closed(table.loops, comers, table.bound, plan), True)
                    self.assertIsNone(lost(table.loops, comers, table.bound))

    def test_the_seventh_fact(self):
        for table in (T, U, V):
            weights = tuple(tuple(int(0 in (table.rows[other - 1] if other else ()) and 0 not in (
                table.rows[wait - 1] if wait else ())) for other in range(table.bound + 1)) for wait in range(table.bound + 1))
            fraction, _ = rate(2, table.bound, weights)
            self.assertEqual(share(table, 2, 0)[0], fraction)
            top, bottom = fraction
            paper = rate_paper(2, table.bound, weights, fraction)
            self.assertIs(is_rate_paper(2, table.bound, weights, fraction, paper), True)
            self.assertIsNone(rate_paper(2, table.bound, weights, (top * 100 - 1, bottom * 100)))


class DaysTest(unittest.TestCase):
    def test_days_stores_and_changes(self):
        chance = random.Random(41)
        met = 0
        for table in many_tables():
            comers = chance.choice([2, 3, 4])
            for _ in range(6):
                comings = random_comings(chance, comers, chance.randint(0, 6))
                # With some ticks more all letters are out.
                longer = comings + (0,) * 61
                store = Store(table, comers)
                try:
                    told = day(table, comers, comings)
                except Meet as error:
                    met += 1
                    with self.assertRaises(Meet) as caught:
                        for number in longer:
                            store.come(number)
                    self.assertEqual((caught.exception.tick, caught.exception.loop), (error.tick, error.loop))
                    self.assertEqual(store.ticks(), error.tick)
                    continue
                for tick, number in enumerate(longer):
                    self.assertEqual(store.inside(), inside(table, comers, comings, tick - 1) if tick else [])
                    store.come(number)
                self.assertEqual(store.layings(), told)
                self.assertIs(is_day(table.loops, comers, table.bound, comings, tuple(told)), True)
                self.assertEqual(changed_day(table, table, comers, comings, 2), told)
                self.assertEqual(read_day(day_text(told)), tuple(told))
                found = [store.wait_of(letter) for letter in range(sum(comings))]
                self.assertEqual(found, waits(comers, table.bound, comings))
                if sum(comings) <= 24:
                    self.assertIsNotNone(ahead(table.loops, comers, table.bound, comings))
        self.assertGreater(met, 20)

    def test_lines_trees_and_long_comings(self):
        chance = random.Random(42)
        for _ in range(50):
            comers, bound = chance.choice([2, 3, 4]), chance.randint(1, 8)
            comings = random_comings(chance, comers, chance.randint(1, 20))
            table = Table((1,), tuple((0,) * many for many in range(1, bound + 1)))
            tree = Tree(((table, (None,) * comers),))
            doorings = tuple(tuple(int(door < number) for door in range(comers)) for number in comings)
            came = max([tick + 1 for tick, number in enumerate(comings) if number], default=0)
            self.assertEqual(tree_comings(tree, doorings), [comings[:came]])
            self.assertEqual(long_line(comers, bound, ((comings, 1),)), lines(comers, bound, comings)[-1])
            gone = len([letter for tick, letter in outs(comers, bound, comings) if tick < len(comings)])
            away = waits(comers, bound, comings).count(None)
            self.assertEqual(long_counts(comers, bound, ((comings, 1),)), (sum(comings), gone, away))

    def test_players(self):
        chance = random.Random(43)
        for loops, comers, bound in (((1, 2), 2, 3), ((1, 1, 3), 2, 5), ((1, 1, 2), 3, 4)):
            comings = random_comings(chance, comers, 20)
            told = led(loops, comers, bound, closed(loops, comers, bound), comings)
            self.assertIs(is_day(loops, comers, bound, comings, told), True)
            switch = Switch(loops, comers, bound)
            layings = []
            for number in comings + (0,) * bound:
                layings.append(switch.come(number))
            self.assertEqual(switch.stand(), ())
            self.assertEqual(len(layings), switch.ticks())
            self.assertFalse(Caller(loops, comers, bound + 1).over())

    def test_tables_that_meet_have_no_day(self):
        comings, one, other = meeting(U, 2)
        self.assertRaises(Meet, day, U, 2, comings)
        self.assertEqual(meets_of(day(T, 2, comings)), [])


if __name__ == "__main__":
    unittest.main()
