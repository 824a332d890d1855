import itertools
import random
import unittest

from common import T, U, V, assert_errors, odd_numbers, odd_things, odd_tuples, wrong_comers, wrong_loops
from loopstore.benches import Bench
from loopstore.clashes import safe
from loopstore.doubling import doubling_table
from loopstore.errors import NoComers, NoLoops, NoRow, NothingDone, NoWait, TooMany
from loopstore.search import friends, rows_for
from loopstore.tables import Table

WRONG_ROWS = odd_tuples() + [(), (2,), (-1,), (0, True), (False,), [0], (0,) * 61, (0, (1,)), (0, None)]


def clashes_by_friends(loops, comers, rows):
    pairs = [(wait, other) for wait in rows for other in rows if wait <= other]
    return sorted(pair for pair in pairs if not friends(loops, comers, rows[pair[0]], rows[pair[1]]))


def free_by_friends(loops, comers, rows, wait):
    others = [rows[other] for other in rows if other != wait]
    return [row for row in rows_for(loops, wait) if all(friends(loops, comers, row, other) for other in [row, *others])]


def table_by_rows(loops, rows):
    many = 0
    while many + 1 in rows:
        many += 1
    return Table(loops, tuple(rows[wait] for wait in range(1, many + 1))) if many else None


def seen(bench):
    """All that a bench tells, but for its free rows."""
    return bench.kept_rows(), bench.clashes(), bench.table(), bench.depth()


def past(bench):
    """All that a bench tells when it is taken back, by a copy of it."""
    other = bench.copy()
    found = [seen(other)]
    while other.depth():
        other.back()
        found.append(seen(other))
    return found


def laid_bench(loops, comers, rows):
    bench = Bench(loops, comers)
    for row in rows:
        bench.put(row)
    return bench


class Unlike(Exception):
    pass


class RowsTest(unittest.TestCase):
    def test_a_plain_bench(self):
        bench = Bench((1, 2), 2)
        self.assertEqual(seen(bench), ({}, [], None, 0))
        self.assertIsNone(bench.put((0,)))
        self.assertIsNone(bench.put((1,)))
        self.assertEqual(bench.free_rows(3), [(0, 1)])
        bench.put((1, 0))
        self.assertEqual(seen(bench), ({1: (0,), 2: (1,), 3: (1, 0)}, [(2, 3)], U, 3))
        self.assertEqual(bench.free_rows(2), [])
        # The row of the wait itself does not count.
        self.assertEqual(bench.free_rows(3), [(0, 1)])
        bench.put((0, 1))
        self.assertEqual(seen(bench), ({1: (0,), 2: (1,), 3: (0, 1)}, [], T, 4))
        self.assertEqual(bench.free_rows(2), [(1,)])
        self.assertEqual(bench.free_rows(4), [])

    def test_a_row_in_the_place_of_an_elder_one(self):
        bench = laid_bench((1, 1), 2, [(0,), (1,)])
        self.assertEqual(seen(bench), ({1: (1,)}, [], Table((1, 1), ((1,),)), 2))
        bench.put((1,))
        self.assertEqual((bench.kept_rows(), bench.depth()), ({1: (1,)}, 3))
        bench.back()
        bench.back()
        self.assertEqual(seen(bench), ({1: (0,)}, [], Table((1, 1), ((0,),)), 1))

    def test_strike(self):
        bench = laid_bench((1, 2), 2, [(0,), (1,), (1, 0)])
        self.assertIsNone(bench.strike(2))
        self.assertEqual(seen(bench), ({1: (0,), 3: (1, 0)}, [], Table((1, 2), ((0,),)), 4))
        for thing in (2, 4, 0, -1, 60, 61):
            self.assertRaises(NoWait, bench.strike, thing)
        bench.strike(1)
        self.assertEqual(seen(bench), ({3: (1, 0)}, [], None, 5))
        bench.strike(3)
        self.assertRaises(NoWait, bench.strike, 3)
        self.assertEqual(seen(bench), ({}, [], None, 6))

    def test_sums(self):
        bench = Bench((1, 20, 40), 2)
        for row in ((), (1, 2, 0), (2, 2), (2,) * 60, (0,) * 61):
            self.assertRaises(NoRow, bench.put, row)
        self.assertEqual(seen(bench), ({}, [], None, 0))
        bench.put((1, 2))
        bench.put((0,) * 60)
        bench.put((0,))
        bench.put((2, 0, 0))
        self.assertEqual(bench.kept_rows(), {60: (0,) * 60, 1: (0,), 42: (2, 0, 0)})
        self.assertEqual(bench.depth(), 4)

    def test_a_row_with_a_loop_several_times(self):
        bench = laid_bench((1, 2), 2, [(0,), (1,)])
        self.assertEqual(bench.clashes(), [])
        bench.put((0, 0, 1))
        # It is no friend of itself, so of no other row either.
        self.assertEqual(bench.clashes(), [(1, 4), (2, 4), (4, 4)])
        for wait in (1, 2, 3):
            self.assertEqual(bench.free_rows(wait), [])
        self.assertEqual(bench.free_rows(4), [])
        bench.put((0, 0))
        self.assertEqual(bench.clashes(), [(1, 2), (1, 4), (2, 2), (2, 4), (4, 4)])

    def test_table_with_a_gap(self):
        bench = laid_bench((1, 2), 2, [(1,), (0, 1)])
        self.assertIsNone(bench.table())
        bench.put((0,))
        self.assertEqual(bench.table(), T)
        bench.put((0, 1, 0, 1))
        self.assertEqual(bench.table(), T)
        bench.put((0, 1, 1))
        bench.put((0, 1, 0))
        self.assertEqual(bench.table(), Table((1, 2), T.rows + ((0, 1, 0), (0, 1, 1), (0, 1, 0, 1))))
        bench.strike(2)
        self.assertEqual(bench.table(), Table((1, 2), ((0,),)))

    def test_table_of_sixty(self):
        whole = doubling_table((1, 2, 4, 8, 16, 29))
        bench = laid_bench(whole.loops, 2, reversed(whole.rows))
        self.assertEqual(bench.table(), whole)
        self.assertEqual(bench.clashes(), [])
        self.assertEqual(bench.depth(), 60)
        self.assertEqual(bench.free_rows(60), [whole.rows[59]])

    def test_chance(self):
        chance = random.Random(15)
        for loops in ((1, 2), (1, 1, 3), (2, 1, 1, 2), (1, 2, 3, 4), (1, 1, 2, 2, 3, 3)):
            for comers in (2, 3, 4):
                bench = Bench(loops, comers)
                rows = {}
                depth = 0
                for _ in range(40):
                    row = tuple(chance.sample(range(len(loops)), chance.randint(1, len(loops))))
                    row += (0,) * (chance.random() < 0.1)
                    wait = sum(loops[loop] for loop in row)
                    if chance.random() < 0.3 and rows:
                        wait = chance.choice(sorted(rows))
                        bench.strike(wait)
                        del rows[wait]
                    else:
                        bench.put(row)
                        rows[wait] = row
                    depth += 1
                    self.assertEqual(bench.kept_rows(), rows)
                    self.assertEqual(bench.clashes(), clashes_by_friends(loops, comers, rows))
                    self.assertEqual(bench.table(), table_by_rows(loops, rows))
                    self.assertEqual(bench.depth(), depth)
                    wait = chance.randint(1, sum(loops) + 1)
                    self.assertEqual(bench.free_rows(wait), free_by_friends(loops, comers, rows, wait))

    def test_a_table_without_clashes_is_safe(self):
        for rows in itertools.product([(0,), (1,)], [(2,), (0, 1), (1, 0)], [(0, 2), (1, 2), (2, 0), (2, 1)]):
            for comers in (2, 3, 4):
                bench = laid_bench((1, 1, 2), comers, rows)
                self.assertIs(safe(bench.table(), comers), bench.clashes() == [])

    def test_each_list_and_dict_is_new(self):
        bench = laid_bench((1, 2), 2, [(0,), (1,), (1, 0)])
        before = seen(bench)
        for made in (bench.kept_rows, bench.clashes, lambda: bench.free_rows(1)):
            made().clear()
        kept = bench.kept_rows()
        kept[1] = (1, 1)
        self.assertEqual(seen(bench), before)
        kept = bench.kept_rows()
        bench.strike(1)
        self.assertEqual(kept, {1: (0,), 2: (1,), 3: (1, 0)})


class FreeRowsTest(unittest.TestCase):
    def test_six_loops_and_seven(self):
        bench = laid_bench((1, 2, 3, 4, 5, 6), 2, [(0,)])
        self.assertEqual(bench.free_rows(21), free_by_friends((1, 2, 3, 4, 5, 6), 2, {1: (0,)}, 21))
        self.assertEqual(len(Bench((10,) * 6, 2).free_rows(60)), 720)
        bench = Bench((1, 2, 3, 4, 5, 6, 7), 2)
        with self.assertRaises(TooMany) as caught:
            bench.free_rows(3)
        self.assertEqual(caught.exception.most, 6)
        self.assertRaises(NoWait, bench.free_rows, 61)
        bench.put((0, 1, 2, 3, 4, 5, 6))
        bench.put((0,))
        bench.put((1,))
        self.assertEqual(bench.clashes(), [])
        self.assertEqual(bench.table(), Table((1, 2, 3, 4, 5, 6, 7), ((0,), (1,))))

    def test_waits_without_rows(self):
        bench = Bench((2, 3), 4)
        self.assertEqual([bench.free_rows(wait) for wait in range(1, 7)], [[], [(0,)], [(1,)], [], [(0, 1), (1, 0)], []])

    def test_comers_count(self):
        rows = [(0,), (1,), (2,)]
        self.assertEqual(laid_bench((1, 2, 3), 3, rows).free_rows(4), [(0, 2)])
        self.assertEqual(laid_bench((1, 2, 3), 4, rows).free_rows(4), [])


class BackTest(unittest.TestCase):
    def test_down_to_nothing(self):
        bench = Bench((1, 2), 2)
        steps = []
        for row in ((0,), (1,), (1, 0), (0, 1), (0,)):
            steps.append(seen(bench))
            bench.put(row)
        for wait in (3, 1):
            steps.append(seen(bench))
            bench.strike(wait)
        while steps:
            self.assertIsNone(bench.back())
            self.assertEqual(seen(bench), steps.pop())
        for _ in range(2):
            self.assertRaises(NothingDone, bench.back)
            self.assertEqual(seen(bench), ({}, [], None, 0))

    def test_calls_that_raise_are_not_taken_back(self):
        bench = laid_bench((1, 2), 2, [(0,)])
        self.assertRaises(NoRow, bench.put, (2,))
        self.assertRaises(NoWait, bench.strike, 2)
        bench.back()
        self.assertEqual(seen(bench), ({}, [], None, 0))


class CopyAndTryingTest(unittest.TestCase):
    def setUp(self):
        self.bench = laid_bench((1, 2), 2, [(0,), (1,), (1, 0), (0, 1)])
        self.bench.strike(2)
        self.before = past(self.bench)

    def assert_as_before(self):
        self.assertEqual(past(self.bench), self.before)

    def test_copies_go_on_apart(self):
        other = self.bench.copy()
        self.assertIs(type(other), Bench)
        self.assertNotEqual(other, self.bench)
        other.put((1,))
        other.strike(1)
        self.assert_as_before()
        self.bench.back()
        self.bench.put((1, 1))
        self.assertEqual(past(other)[2:], self.before)
        for _ in range(7):
            other.back()
        self.assertRaises(NothingDone, other.back)
        self.assertEqual(self.bench.kept_rows(), {1: (0,), 2: (1,), 3: (0, 1), 4: (1, 1)})

    def test_a_copy_keeps_its_loops_and_its_comers(self):
        other = Bench((1, 2, 3), 4).copy()
        for row in ((0,), (1,), (2,)):
            other.put(row)
        self.assertEqual(other.free_rows(4), [])

    def test_the_result_comes_out_as_it_is(self):
        for thing in (None, False, 0, [], (1, [2]), NoRow(), self.bench, Unlike):
            self.assertIs(self.bench.trying(lambda bench: thing), thing)
        self.assertEqual(self.bench.trying(lambda bench: bench.put((1,)) or bench.table()), T)
        self.assert_as_before()

    def test_all_is_put_back(self):
        def action(bench):
            self.assertIs(bench, self.bench)
            while bench.depth():
                bench.back()
            self.assertRaises(NothingDone, bench.back)
            bench.put((0, 0, 0))
            bench.put((1,))
            bench.strike(3)
            return seen(bench)

        self.assertEqual(self.bench.trying(action), ({2: (1,)}, [], None, 3))
        self.assert_as_before()

    def test_errors_of_whatever_class_go_on(self):
        for error in (Unlike(1), NoRow(), TooMany(6), ValueError(1), KeyError(2), StopIteration(), KeyboardInterrupt(),
                      SystemExit(3), GeneratorExit(), RecursionError()):
            def action(bench):
                bench.put((0,))
                bench.strike(3)
                bench.back()
                raise error

            with self.assertRaises(type(error)) as caught:
                self.bench.trying(action)
            self.assertIs(caught.exception, error)
            self.assert_as_before()
        self.assertRaises(NoWait, self.bench.trying, lambda bench: bench.strike(1) or bench.strike(1))
        self.assertRaises(NoRow, self.bench.trying, lambda bench: bench.put((0,)) or bench.put(()))
        self.assert_as_before()

    def test_trials_within_trials_and_the_outer_name(self):
        def inner(bench):
            self.bench.back()
            self.bench.back()
            bench.put((1, 1))
            return bench.kept_rows()

        def outer(bench):
            bench.put((1,))
            between = past(bench)
            self.assertEqual(self.bench.trying(inner), {1: (0,), 2: (1,), 3: (0, 1), 4: (1, 1)})
            self.assertEqual(past(bench), between)
            self.bench.strike(1)
            return bench.kept_rows()

        self.assertEqual(self.bench.trying(outer), {2: (1,), 3: (0, 1)})
        self.assert_as_before()

    def test_copies_that_are_made_stay_as_they_are(self):
        copies = []

        def action(bench):
            bench.put((1,))
            copies.append(bench.copy())
            bench.back()
            bench.back()
            bench.back()
            copies.append(bench.copy())
            copies[1].strike(1)

        self.bench.trying(action)
        self.assert_as_before()
        self.assertEqual(seen(copies[0]), ({1: (0,), 2: (1,), 3: (0, 1)}, [], T, 6))
        self.assertEqual(seen(copies[1]), ({2: (1,), 3: (1, 0)}, [(2, 3)], None, 4))
        copies[0].back()
        self.assertEqual(past(copies[0]), self.before)
        copies[0].back()
        self.assert_as_before()


class WrongTest(unittest.TestCase):
    def test_wrong_arguments_and_their_order(self):
        assert_errors(self, Bench, ((1, 2), 2), [(0, NoLoops, wrong_loops()), (1, NoComers, wrong_comers())])

    def test_wrong_rows_and_waits_change_nothing(self):
        bench = laid_bench((1, 2), 2, [(0,), (0, 1)])
        before = past(bench)
        for thing in WRONG_ROWS:
            if thing != (1,) or isinstance(thing[0], bool):
                with self.subTest(thing=repr(thing)[:40]):
                    self.assertRaises(NoRow, bench.put, thing)
        for thing in odd_numbers() + [2, 4, 61]:
            with self.subTest(thing=repr(thing)[:40]):
                self.assertRaises(NoWait, bench.strike, thing)
        for thing in odd_numbers() + [0, 61]:
            with self.subTest(thing=repr(thing)[:40]):
                self.assertRaises(NoWait, bench.free_rows, thing)
        self.assertEqual(past(bench), before)

    def test_a_bench_is_equal_to_itself_alone(self):
        bench = Bench((1,), 2)
        self.assertEqual(bench, bench)
        for thing in [Bench((1,), 2), V, *odd_things()]:
            self.assertNotEqual(bench, thing)


if __name__ == "__main__":
    unittest.main()
