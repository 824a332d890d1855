import itertools
import random
import unittest

from common import T, U, V, assert_errors, nested, odd_things, wrong_bounds, wrong_comers, wrong_loops
from loopstore.doubling import doubling_table
from loopstore.errors import NoBound, NoComers, NoLoops, TooMany
from loopstore.games import check_stands, closed, closed_of, greatest_kept, is_closed, is_lost, lost
from loopstore.search import greatest_table, table_for
from loopstore.sizes import reach
from loopstore.stands import behind, layings_out
from loopstore.tables import Table

# 2002 stands can be come to.
LARGE = (1, 1, 2, 2, 3, 3, 3)
SMALL_CLOSED = {(): ((), (), ((1, 0),)), (0,): ((), ((1, 0),), ((1, 0),))}
SMALL_LOST = {(): (2, 0)}


def reached(loops, comers, bound):
    """The stands come to from (), with the lists of those behind for each number; by all layings-out."""
    found = {}
    waiting = [()]
    while waiting:
        stand = waiting.pop()
        if stand not in found:
            found[stand] = [
                [behind(loops, comers, bound, stand, number, laying)
                 for laying in layings_out(loops, comers, bound, stand, number)] for number in range(comers + 1)]
            waiting.extend(end for ends in found[stand] for end in ends)
    return found


def kept_stands(loops, comers, bound):
    """Those from which no comings lose, by striking out others again and again."""
    stands = reached(loops, comers, bound)
    while True:
        bad = [stand for stand in stands if not all(any(end in stands for end in ends) for ends in stands[stand])]
        if not bad:
            return stands
        for stand in bad:
            del stands[stand]


def closed_by_definition(loops, comers, bound, thing):
    if () not in thing:
        return False
    for stand, layings in thing.items():
        if len(stand) > bound or not all(0 <= left <= place for place, left in enumerate(stand)):
            return False
        if len(layings) != comers + 1:
            return False
        for number, laying in enumerate(layings):
            if laying not in layings_out(loops, comers, bound, stand, number):
                return False
            if behind(loops, comers, bound, stand, number, laying) not in thing:
                return False
    return True


def lost_by_definition(loops, comers, bound, thing):
    if () not in thing:
        return False
    for stand, (number, depth) in thing.items():
        if len(stand) > bound or not all(0 <= left <= place for place, left in enumerate(stand)):
            return False
        if not 0 <= number <= comers or depth < 0:
            return False
        for laying in layings_out(loops, comers, bound, stand, number):
            end = behind(loops, comers, bound, stand, number, laying)
            if end not in thing or thing[end][1] >= depth:
                return False
    return True


def small_games():
    for many in (1, 2, 3):
        for loops in itertools.combinations_with_replacement(range(1, 5), many):
            for comers in (2, 3, 4):
                for bound in range(1, 6):
                    yield loops, comers, bound
    for loops in ((1, 1, 2, 3), (1, 2, 2, 3), (2, 1, 1, 1), (1, 2, 4, 4)):
        yield loops, 2, 5
        yield loops, 3, 4


def assert_too_many(case, function, *args):
    with case.assertRaises(TooMany) as caught:
        function(*args)
    case.assertEqual(caught.exception.most, 2000)


class ClosedAndLostTest(unittest.TestCase):
    def test_small_games(self):
        self.assertIsNone(closed((2,), 2, 1))
        self.assertEqual(lost((2,), 2, 1), SMALL_LOST)
        self.assertIsNone(lost((1,), 2, 1))
        self.assertEqual(closed((1,), 2, 1), SMALL_CLOSED)
        # The line grows by one letter to (0,), (0, 0) and so on, until two letters are at the switch.
        self.assertEqual(lost((1,), 2, 2), {(): (2, 1), (0,): (2, 0)})

    def test_the_fifth_fact(self):
        kept = {True: 0, False: 0}
        for loops, comers, bound in small_games():
            keeps = () in kept_stands(loops, comers, bound)
            one, other = closed(loops, comers, bound), lost(loops, comers, bound)
            self.assertIs(one is not None, keeps)
            self.assertIs(other is None, keeps)
            if keeps:
                self.assertTrue(closed_by_definition(loops, comers, bound, one))
                self.assertIs(is_closed(loops, comers, bound, one), True)
            else:
                self.assertTrue(lost_by_definition(loops, comers, bound, other))
                self.assertIs(is_lost(loops, comers, bound, other), True)
            kept[keeps] += 1
        self.assertGreater(min(kept.values()), 100)

    def test_bounds_1_and_60(self):
        self.assertIsNotNone(closed((1,), 4, 1))
        found = lost((40,) * 8, 4, 60)
        self.assertEqual(found[()][1], 0)
        self.assertIs(is_lost((40,) * 8, 4, 60, found), True)
        found = lost((1,) * 8, 2, 60)
        self.assertIs(is_lost((1,) * 8, 2, 60, found), True)
        self.assertIs(is_lost((1,) * 8, 2, 8, found), False)
        # Nine letters in loops of length 1 are all at the switch.
        self.assertEqual(found[()], (2, 8))
        found = closed((1,) * 8, 4, 8)
        self.assertIs(is_closed((1,) * 8, 4, 8, found), True)
        self.assertEqual(sorted(found), [(0,) * many for many in range(9)])

    def test_more_than_2000_stands(self):
        self.assertEqual(len(reached((1, 1, 2, 2, 3, 3), 2, 7)), 594)
        self.assertIsNotNone(closed((1, 1, 2, 2, 3, 3), 2, 7))
        for comers in (2, 3, 4):
            assert_too_many(self, closed, LARGE, comers, 8)
            assert_too_many(self, lost, LARGE, comers, 8)
            assert_too_many(self, closed, (1, 2, 4, 8, 16, 32, 40, 40), comers, 60)
        self.assertIsNotNone(closed((1, 1, 1, 1, 2, 2, 3), 4, 10))
        self.assertIsNone(check_stands(2000))
        assert_too_many(self, check_stands, 2001)

    def test_each_dict_is_new(self):
        closed((1,), 2, 1).clear()
        lost((2,), 2, 1).clear()
        self.assertEqual(closed((1,), 2, 1), SMALL_CLOSED)
        self.assertEqual(lost((2,), 2, 1), SMALL_LOST)

    def test_wrong_arguments_and_their_order(self):
        for function in (closed, lost):
            assert_errors(self, function, ((1, 2), 2, 3), [
                (0, NoLoops, wrong_loops()), (1, NoComers, wrong_comers()), (2, NoBound, wrong_bounds())])


class IsClosedTest(unittest.TestCase):
    LOOPS = (1, 2)

    def setUp(self):
        self.right = closed(self.LOOPS, 2, 3)

    def judge(self, thing):
        before = repr(thing)
        told = is_closed(self.LOOPS, 2, 3, thing)
        self.assertEqual(repr(thing), before)
        return told

    def test_right_ones(self):
        self.assertIs(self.judge(self.right), True)
        self.assertIs(is_closed((1,), 2, 1, SMALL_CLOSED), True)
        self.assertIs(is_closed((1, 7), 2, 1, SMALL_CLOSED), True)
        # More stands than are come to may stand there, as long as they are kept, too.
        self.assertIs(is_closed((1,), 2, 2, SMALL_CLOSED), False)
        more = {**SMALL_CLOSED, (0, 1): ((), ((2, 1),), ((2, 1),))}
        more[(0, 0)] = (((1, 0),), ((1, 0), (2, 1)), ((1, 0), (2, 1)))
        self.assertIs(is_closed((1, 2), 2, 2, more), False)
        more[(0,)] = ((), ((1, 0),), ((1, 0), (2, 1)))
        self.assertIs(is_closed((1, 2), 2, 2, more), True)

    def test_the_empty_stand_must_be_there(self):
        self.assertIs(self.judge({}), False)
        self.assertIs(self.judge({stand: self.right[stand] for stand in self.right if stand}), False)

    def test_each_stand_must_be_there(self):
        for struck in self.right:
            thing = {stand: self.right[stand] for stand in self.right if stand != struck}
            self.assertIs(self.judge(thing), closed_by_definition(self.LOOPS, 2, 3, thing))

    def test_there_is_a_laying_out_for_each_number(self):
        for stand in self.right:
            for layings in (self.right[stand][:2], self.right[stand][1:], self.right[stand] + ((),), (), ((), (), ())):
                thing = {**self.right, stand: layings}
                self.assertIs(self.judge(thing), closed_by_definition(self.LOOPS, 2, 3, thing))
        self.assertIs(is_closed(self.LOOPS, 3, 3, self.right), False)

    def test_flags_and_wrong_stands_in_keys(self):
        layings = self.right[()]
        for key in (
                (False,), (0, False), (0, True), True, 0, "", None, (0, 0, 0, 0), (1,), (0, 2), (0, -1), (0, (1,)), (None,),
                b"", ((0, 1),), (10 ** 59,)):
            # A dict keeps the elder one of equal keys.
            thing = {stand: self.right[stand] for stand in self.right if stand != key}
            thing[key] = self.right.get(key, layings)
            self.assertIs(self.judge(thing), False, key)
        swapped = {(False,) if stand == (0,) else stand: self.right[stand] for stand in self.right}
        self.assertEqual(swapped, self.right)
        self.assertIs(self.judge(swapped), False)

    def test_things_of_other_kinds(self):
        right = self.right
        two = right[()][2]
        wrong = odd_things() + [
            [], (), 0, list(right.items()), tuple(right.items()), {**right, (): list(right[()])}, {**right, (): None},
            {**right, (): right[()][:2] + (list(two),)}, {**right, (): right[()][:2] + (None,)}, {**right, (): 3},
            {**right, (): right[()][:2] + (((1, False),),)}, {**right, (): right[()][:2] + (((True, 0),),)}, {(): {}},
            {**right, (): right[()][:2] + ([1, 0],)}, {**right, (): right[()][:2] + (((1, 0, 0),),)}, {(): ()},
            {**right, (): right[()][:2] + (((1, 2),),)}, {**right, (): right[()][:2] + (((1, -1),),)}, {(): T},
            {**right, (): right[()][:2] + (T,)}, {**right, (): {0: (), 1: (), 2: two}}, {(): nested(tuple, 38, ())},
        ]
        for thing in wrong:
            with self.subTest(thing=repr(thing)[:60]):
                self.assertIs(self.judge(thing), False)

    def test_changed_ones_by_the_definition(self):
        chance = random.Random(6)
        kept = {True: 0, False: 0}
        for loops, comers, bound in (((1, 2), 2, 3), ((1, 1), 2, 2), ((1, 1, 2), 3, 3), ((1, 1, 3), 2, 3)):
            stands = list(reached(loops, comers, bound))
            right = closed(loops, comers, bound)
            for _ in range(300):
                stand = chance.choice(stands)
                layings = [layings_out(loops, comers, bound, stand, number) for number in range(comers + 1)]
                thing = {**right, stand: tuple(chance.choice(every) if every else () for every in layings)}
                if chance.random() < 0.3:
                    del thing[chance.choice(list(thing))]
                told = is_closed(loops, comers, bound, thing)
                self.assertIs(told, closed_by_definition(loops, comers, bound, thing))
                kept[told] += 1
        self.assertGreater(min(kept.values()), 100)

    def test_wrong_arguments_and_their_order(self):
        assert_errors(self, is_closed, (self.LOOPS, 2, 3, self.right), [
            (0, NoLoops, wrong_loops()), (1, NoComers, wrong_comers()), (2, NoBound, wrong_bounds())])

    def test_of_games_of_any_size(self):
        self.assertIs(is_closed(LARGE, 2, 8, {}), False)
        self.assertIs(is_closed((1,) * 8, 2, 60, SMALL_CLOSED), False)
        self.assertIs(is_lost(LARGE, 2, 8, {(): (2, 5)}), False)


class IsLostTest(unittest.TestCase):
    LOOPS = (1, 2)

    def setUp(self):
        self.right = lost(self.LOOPS, 3, 3)

    def judge(self, thing):
        before = repr(thing)
        told = is_lost(self.LOOPS, 3, 3, thing)
        self.assertEqual(repr(thing), before)
        return told

    def test_right_ones(self):
        self.assertIs(self.judge(self.right), True)
        self.assertIs(is_lost((2,), 2, 1, {(): (2, 0)}), True)
        self.assertIs(is_lost((2,), 2, 1, {(): (2, 10 ** 59)}), True)
        self.assertIs(is_lost((2,), 4, 1, {(): (3, 7), (0,): (1, 0)}), True)
        self.assertIs(is_lost((1,), 2, 2, {(): (2, 1), (0,): (2, 0)}), True)

    def test_a_number_that_does_not_lose(self):
        self.assertIs(is_lost((2,), 2, 1, {(): (1, 0)}), False)
        self.assertIs(is_lost((2,), 2, 1, {(): (0, 5)}), False)
        self.assertIs(is_lost((1,), 2, 2, {(): (2, 1), (0,): (0, 0)}), False)

    def test_the_depth_must_become_less(self):
        for one, other in ((0, 0), (1, 1), (1, 2), (0, 1)):
            self.assertIs(is_lost((1,), 2, 2, {(): (2, one), (0,): (2, other)}), False)
        self.assertIs(is_lost((1,), 2, 2, {(): (2, 9), (0,): (2, 8)}), True)
        self.assertIs(is_lost((1,), 2, 2, {(): (2, 0), (0,): (2, -1)}), False)

    def test_each_stand_that_is_needed_must_be_there(self):
        self.assertIs(self.judge({}), False)
        for struck in self.right:
            thing = {stand: self.right[stand] for stand in self.right if stand != struck}
            self.assertIs(self.judge(thing), lost_by_definition(self.LOOPS, 3, 3, thing))

    def test_flags_and_wrong_stands_in_keys(self):
        for key in (
                (False,), (0, False), (0, True), True, 0, "", None, (0, 0, 0, 0), (1,), (0, 2), (0, -1), (0, (1,)), (None,),
                b"", ((0, 1),), (10 ** 59,)):
            # A dict keeps the elder one of equal keys.
            thing = {stand: self.right[stand] for stand in self.right if stand != key}
            thing[key] = self.right.get(key, (2, 0))
            self.assertIs(self.judge(thing), False, key)
        self.assertIs(is_lost((1,), 2, 2, {(): (2, 1), (False,): (2, 0)}), False)

    def test_things_of_other_kinds(self):
        wrong = odd_things() + [
            [], (), 0, {(): 2}, {(): None}, {(): ()}, {(): (2,)}, {(): (2, 0, 0)}, {(): [2, 0]}, {(): (True, 0)}, {(): (2, False)},
            {(): (4, 0)}, {(): (-1, 0)}, {(): (2, -1)}, {(): (None, 0)}, {(): (2, None)}, {(): ("2", 0)}, {(): ((2,), 0)}, {(): T},
            {(): {2: 0}}, {(): nested(tuple, 38, ())}, [((), (2, 0))], (((), (2, 0)),), {(): (10 ** 59, 0)},
        ]
        for thing in wrong:
            with self.subTest(thing=repr(thing)[:60]):
                self.assertIs(is_lost((40,), 3, 3, thing), False)
                self.assertIs(self.judge(thing), False)
        self.assertIs(is_lost((40,), 3, 3, {(): (2, 0)}), True)

    def test_changed_ones_by_the_definition(self):
        chance = random.Random(7)
        kept = {True: 0, False: 0}
        for loops, comers, bound in (((1, 2), 3, 3), ((1, 1), 2, 3), ((1, 1, 2), 4, 4), ((1, 1, 3), 3, 4)):
            stands = list(reached(loops, comers, bound))
            right = lost(loops, comers, bound)
            for _ in range(300):
                stand = chance.choice(stands)
                thing = {**right, stand: (chance.randint(0, comers + 1), chance.randint(-1, 8))}
                if chance.random() < 0.3:
                    del thing[chance.choice(list(thing))]
                told = is_lost(loops, comers, bound, thing)
                self.assertIs(told, lost_by_definition(loops, comers, bound, thing))
                kept[told] += 1
        self.assertGreater(min(kept.values()), 50)

    def test_wrong_arguments_and_their_order(self):
        assert_errors(self, is_lost, (self.LOOPS, 3, 3, self.right), [
            (0, NoLoops, wrong_loops()), (1, NoComers, wrong_comers()), (2, NoBound, wrong_bounds())])


class GreatestKeptTest(unittest.TestCase):
    def test_plain_loops(self):
        self.assertEqual(greatest_kept((1, 2), 2), 3)
        self.assertEqual(greatest_kept((1, 2), 3), 2)
        self.assertEqual(greatest_kept((1, 1, 3), 2), 5)
        self.assertEqual(greatest_kept((1, 1, 3), 3), 3)
        self.assertEqual(greatest_kept((1,) * 8, 4), 8)
        self.assertEqual(greatest_kept((1,), 2), 1)
        self.assertEqual(greatest_kept((2,), 2), 0)
        self.assertEqual(greatest_kept((40,) * 8, 4), 0)

    def test_the_sixth_fact(self):
        unlike = 0
        for many in (1, 2, 3):
            for loops in itertools.combinations_with_replacement(range(1, 6), many):
                for comers in (2, 3, 4):
                    told = greatest_kept(loops, comers)
                    self.assertLessEqual(greatest_table(loops, comers), told)
                    self.assertLessEqual(told, reach(loops))
                    if told:
                        self.assertIsNotNone(closed(loops, comers, told))
                    self.assertIsNone(closed(loops, comers, told + 1))
                    unlike += told < reach(loops)
        self.assertGreater(unlike, 10)

    def test_more_than_2000_stands(self):
        assert_too_many(self, greatest_kept, (1, 2, 4, 8), 2)
        assert_too_many(self, greatest_kept, (1, 2, 4, 8, 16, 32, 40, 40), 2)
        # The first bound without a closed list ends it.
        self.assertEqual(greatest_kept((1, 2, 4, 8, 16, 32, 40, 40), 3), 2)
        # A bound above the reach is not looked at.
        self.assertEqual(greatest_kept((1, 3, 6, 10, 15, 21), 2), 1)

    def test_wrong_arguments_and_their_order(self):
        for loops in ((1, 2), (2,)):
            assert_errors(self, greatest_kept, (loops, 2), [(0, NoLoops, wrong_loops()), (1, NoComers, wrong_comers())])


class ClosedOfTest(unittest.TestCase):
    def test_plain_tables(self):
        self.assertEqual(closed_of(Table((1,), ((0,),)), 2), SMALL_CLOSED)
        self.assertIsNone(closed_of(U, 2))
        self.assertIsNone(closed_of(T, 3))
        for table in (T, V):
            self.assertIs(is_closed(table.loops, 2, table.bound, closed_of(table, 2)), True)

    def test_safe_tables_of_small_loops(self):
        seen = 0
        for many in (1, 2, 3):
            for loops in itertools.combinations_with_replacement(range(1, 5), many):
                for comers in (2, 3, 4):
                    bound = greatest_table(loops, comers)
                    if bound:
                        table = table_for(loops, comers, bound)
                        found = closed_of(table, comers)
                        self.assertIs(is_closed(loops, comers, bound, found), True)
                        self.assertTrue(closed_by_definition(loops, comers, bound, found))
                        seen += 1
        self.assertGreater(seen, 30)

    def test_the_stands_are_those_that_the_table_comes_to(self):
        for table, comers in ((T, 2), (V, 2), (doubling_table((1, 2, 3)), 2), (table_for((1, 1, 2, 3), 4, 6), 4)):
            found = closed_of(table, comers)
            stands = self.stands_come_to(table, comers)
            self.assertEqual(set(found), stands)

    def stands_come_to(self, table, comers):
        found = {(): True}
        waiting = [()]
        stands = set()
        while waiting:
            waits = waiting.pop()
            stand = []
            for place, wait in enumerate(waits):
                back = 0
                for loop in table.rows[wait - 1] if wait else ():
                    if back < wait - place:
                        back += table.loops[loop]
                stand.append(back - (wait - place))
            stands.add(tuple(stand))
            for number in range(comers + 1):
                come = tuple(range(len(waits), min(len(waits) + number, table.bound + 1)))
                if (waits + come)[1:] not in found:
                    found[(waits + come)[1:]] = True
                    waiting.append((waits + come)[1:])
        return stands

    def test_more_than_2000_tuples_of_waits(self):
        table = doubling_table((1, 2, 4))
        self.assertIs(is_closed((1, 2, 4), 2, 7, closed_of(table, 2)), True)
        for loops in ((1, 2, 4, 8), (1, 2, 4, 8, 16, 29)):
            assert_too_many(self, closed_of, doubling_table(loops), 2)
            # These are not safe.
            self.assertIsNone(closed_of(doubling_table(loops), 3))
        self.assertIsNone(closed_of(Table((1,), tuple((0,) * many for many in range(1, 61))), 4))

    def test_wrong_comers(self):
        for table in (T, U):
            assert_errors(self, closed_of, (table, 2), [(1, NoComers, wrong_comers())])


if __name__ == "__main__":
    unittest.main()
