import random
import unittest

from common import (
    LONGEST, T, U, V, assert_errors, led_day, meets_of, odd_numbers, random_comings, random_table, wrong_comers,
    wrong_numbers)
from loopstore.clashes import safe
from loopstore.days import day, inside
from loopstore.doubling import doubling_table
from loopstore.errors import LoopError, Meet, NoComers, NoLetter, NoNumber, NothingDone
from loopstore.lines import lines, outs, waits
from loopstore.stores import Store
from loopstore.tables import Table

# Letters with the waits 2 and 3 that come together want the loop 3 one tick later.
LATE = Table((1, 1, 1, 1), ((0,), (1, 3), (2, 3, 0)))


def seen(store):
    """All that a store tells."""
    ticks = store.ticks()
    letters = 0
    known = []
    while True:
        try:
            known.append(store.wait_of(letters))
        except NoLetter:
            break
        letters += 1
    return ticks, store.letters(), store.inside(), known, store.layings()


def told(table, comers, comings):
    """All that a store has to tell behind these comings, by the functions that know all comings."""
    ticks = len(comings)
    found = waits(comers, table.bound, comings)
    staying = [letter for tick, letter in outs(comers, table.bound, comings) if tick >= ticks]
    behind = inside(table, comers, comings, ticks - 1) if ticks else []
    return ticks, staying, behind, found, [laying for laying in led_day(table, comings) if laying[0] < ticks]


def past(store):
    """All that a store tells when it is taken back tick by tick, by a copy of it."""
    other = store.copy()
    found = [seen(other)]
    while other.ticks():
        other.back()
        found.append(seen(other))
    return found


def led_store(table, comers, comings):
    store = Store(table, comers)
    for number in comings:
        store.come(number)
    return store


class Unlike(Exception):
    pass


class ComeTest(unittest.TestCase):
    def test_a_plain_store(self):
        store = Store(T, 2)
        self.assertEqual(seen(store), (0, [], [], [], []))
        self.assertEqual(store.come(2), (0, ()))
        self.assertEqual(seen(store), (1, [1], [(0, 1, 1)], [0, 1], [(0, 1, 0)]))
        self.assertEqual(store.come(2), (1, ()))
        self.assertEqual(seen(store), (2, [2, 3], [(0, 2, 1), (1, 3, 2)], [0, 1, 1, 2], [(0, 1, 0), (1, 2, 0), (1, 3, 1)]))
        self.assertEqual(store.come(0), (2, ()))
        self.assertEqual(store.come(0), (3, ()))
        self.assertEqual(store.come(0), (None, ()))
        self.assertEqual(seen(store)[:3], (5, [], []))

    def test_letters_that_are_turned_away(self):
        store = Store(Table((1,), ((0,),)), 4)
        self.assertEqual(store.come(4), (0, (2, 3)))
        self.assertEqual(store.come(3), (1, (5, 6)))
        self.assertEqual(store.come(0), (4, ()))
        self.assertEqual([store.wait_of(letter) for letter in range(7)], [0, 1, None, None, 1, None, None])
        self.assertIs(type(store.copy().come(4)), tuple)
        self.assertIs(type(store.come(4)[1]), tuple)

    def test_it_tells_the_same_as_the_functions_that_know_all_comings(self):
        chance = random.Random(11)
        loops = [(1,), (1, 2), (2, 1), (1, 2, 4), (1, 1, 3), (1, 1, 2, 3), (1, 2, 4, 8)]
        met = 0
        for _ in range(150):
            comers = chance.choice([2, 3, 4])
            table = chance.choice([T, V, random_table(chance, chance.choice(loops), chance.choice([1, 2, 3, 5, 9]))])
            comings = random_comings(chance, comers, chance.randint(0, 15))
            store = Store(table, comers)
            for tick in range(len(comings)):
                met_now = [meet for meet in meets_of(led_day(table, comings[:tick + 1])) if meet[0] <= tick]
                if met_now:
                    before = past(store)
                    with self.assertRaises(Meet) as caught:
                        store.come(comings[tick])
                    self.assertEqual((caught.exception.tick, caught.exception.loop), met_now[0])
                    self.assertEqual(past(store), before)
                    met += 1
                    break
                gone = [letter for at, letter in outs(comers, table.bound, comings[:tick + 1]) if at == tick]
                first, last = sum(comings[:tick]), sum(comings[:tick + 1])
                away = [letter for letter in range(first, last) if waits(comers, table.bound, comings)[letter] is None]
                self.assertEqual(store.come(comings[tick]), (gone[0] if gone else None, tuple(away)))
                self.assertEqual(seen(store), told(table, comers, comings[:tick + 1]))
                self.assertEqual(len(store.letters()), lines(comers, table.bound, comings[:tick + 1])[-1])
        self.assertGreater(met, 20)

    def test_a_whole_day_by_safe_tables(self):
        chance = random.Random(12)
        for table in (T, V, doubling_table((1, 2, 4, 8)), doubling_table((1, 2, 4, 8, 16, 29))):
            comings = random_comings(chance, 2, 300) + (0,) * 100
            store = led_store(table, 2, comings)
            self.assertEqual(store.layings(), day(table, 2, comings))
            self.assertEqual((store.letters(), store.inside()), ([], []))

    def test_more_ticks_than_comings_may_have(self):
        store = Store(T, 2)
        for tick in range(1500):
            self.assertEqual(store.come(1 if tick else 2)[0], tick)
        self.assertEqual((store.ticks(), store.letters()), (1500, [1500]))
        self.assertEqual(store.inside(), [(0, 1500, 1)])
        self.assertEqual(store.layings(), [(tick, tick + 1, 0) for tick in range(1500)])
        self.assertEqual((store.wait_of(0), store.wait_of(1500)), (0, 1))
        self.assertRaises(NoLetter, store.wait_of, 1501)

    def test_each_list_is_new(self):
        store = led_store(T, 2, (2, 2))
        before = seen(store)
        for made in (store.letters, store.inside, store.layings):
            self.assertIs(type(made()), list)
            made().clear()
        self.assertEqual(seen(store), before)
        store.come(2)
        self.assertEqual(before, seen(led_store(T, 2, (2, 2))))


class MeetTest(unittest.TestCase):
    def assert_meet(self, store, number, tick, loop):
        before = past(store)
        for _ in range(2):
            with self.assertRaises(Meet) as caught:
                store.come(number)
            self.assertEqual((caught.exception.tick, caught.exception.loop), (tick, loop))
            self.assertEqual(past(store), before)

    def test_letters_that_come_now(self):
        store = led_store(U, 2, (2, 2))
        self.assert_meet(store, 2, 2, 1)
        # It goes on if fewer letters come.
        self.assertEqual(store.come(1), (2, ()))

    def test_0_letters_can_raise_it(self):
        store = led_store(LATE, 4, (4,))
        self.assert_meet(store, 0, 1, 3)
        self.assert_meet(store, 4, 1, 3)
        store.back()
        self.assertEqual(store.come(2), (0, ()))

    def test_the_least_loop(self):
        table = Table((1, 1, 2), ((0,), (2,), (2, 0), (0, 2, 0)))
        store = led_store(table, 4, (2,))
        self.assert_meet(store, 4, 1, 0)
        other = Table((2, 1, 1), ((1,), (0,), (0, 1), (1, 1, 1, 1)))
        self.assert_meet(led_store(other, 4, (2,)), 3, 1, 0)

    def test_the_longest_rows(self):
        self.assert_meet(led_store(LONGEST, 2, (2,)), 2, 1, 0)

    def test_safe_tables_never_meet(self):
        chance = random.Random(13)
        for table, comers in ((T, 2), (V, 2), (doubling_table((1, 2, 3)), 2)):
            self.assertTrue(safe(table, comers))
            store = Store(table, comers)
            for _ in range(1000):
                store.come(chance.randint(0, comers))


class BackTest(unittest.TestCase):
    def test_back_to_the_empty_store(self):
        comings = (2, 2, 1, 0, 2, 2, 2, 2, 0)
        store = led_store(T, 2, comings)
        for many in reversed(range(len(comings))):
            self.assertIsNone(store.back())
            self.assertEqual(seen(store), told(T, 2, comings[:many]))
        for _ in range(2):
            self.assertRaises(NothingDone, store.back)
            self.assertEqual(seen(store), (0, [], [], [], []))
        for number in comings:
            store.come(number)
        self.assertEqual(seen(store), told(T, 2, comings))

    def test_letters_that_were_taken_back_have_not_come(self):
        store = led_store(T, 2, (2, 2))
        self.assertEqual(store.wait_of(3), 2)
        store.back()
        self.assertRaises(NoLetter, store.wait_of, 2)
        store.come(0)
        self.assertEqual(store.come(1), (2, ()))
        self.assertEqual(store.wait_of(2), 0)

    def test_there_and_back_by_chance(self):
        chance = random.Random(14)
        for table, comers in ((T, 2), (V, 2), (Table((1,), ((0,),)), 4)):
            store = Store(table, comers)
            comings = []
            for _ in range(300):
                if comings and chance.random() < 0.4:
                    store.back()
                    comings.pop()
                else:
                    comings.append(chance.randint(0, comers))
                    store.come(comings[-1])
                self.assertEqual(seen(store), told(table, comers, tuple(comings)))


class CopyTest(unittest.TestCase):
    def test_copies_go_on_apart_and_take_back_on_their_own(self):
        store = led_store(T, 2, (2, 2, 2))
        other = store.copy()
        self.assertIs(type(other), Store)
        self.assertIsNot(other, store)
        self.assertNotEqual(other, store)
        before = past(store)
        self.assertEqual(past(other), before)
        other.come(1)
        other.come(0)
        self.assertEqual(past(store), before)
        self.assertEqual(seen(other), told(T, 2, (2, 2, 2, 1, 0)))
        store.back()
        store.back()
        store.come(0)
        self.assertEqual(seen(other), told(T, 2, (2, 2, 2, 1, 0)))
        self.assertEqual(past(other)[2:], before)
        for _ in range(5):
            other.back()
        self.assertRaises(NothingDone, other.back)
        self.assertEqual(seen(store), told(T, 2, (2, 0)))

    def test_a_copy_keeps_its_table_and_its_comers(self):
        store = Store(U, 3).copy()
        self.assertRaises(NoNumber, store.come, 4)
        store.come(3)
        self.assertEqual(seen(store), told(U, 3, (3,)))


class TryingTest(unittest.TestCase):
    def setUp(self):
        self.store = led_store(T, 2, (2, 2, 1))
        self.before = past(self.store)

    def assert_as_before(self):
        self.assertEqual(past(self.store), self.before)

    def test_the_result_comes_out_as_it_is(self):
        for thing in (None, False, 0, [], "", (1, [2]), {1: 2}, NoNumber(), self.store, Unlike, NotImplemented):
            self.assertIs(self.store.trying(lambda store: thing), thing)
        self.assertEqual(self.store.trying(lambda store: store.come(1)), (3, ()))
        self.assertIs(self.store.trying(lambda store: store), self.store)
        self.assert_as_before()

    def test_all_is_put_back(self):
        def action(store):
            self.assertIs(store, self.store)
            store.come(1)
            store.come(0)
            return seen(store)

        self.assertEqual(self.store.trying(action), told(T, 2, (2, 2, 1, 1, 0)))
        self.assert_as_before()

    def test_what_can_be_taken_back_is_put_back(self):
        def action(store):
            for _ in range(3):
                store.back()
            self.assertRaises(NothingDone, store.back)
            store.come(1)
            store.come(1)

        self.assertIsNone(self.store.trying(action))
        self.assert_as_before()
        for _ in range(3):
            self.store.back()
        self.assertRaises(NothingDone, self.store.back)

    def test_errors_of_whatever_class_go_on(self):
        for error in (Unlike(1), NoNumber(), Meet(1, 2), ValueError(1), KeyError(2), StopIteration(), KeyboardInterrupt(),
                      SystemExit(3), GeneratorExit(), RecursionError(), AttributeError("x"), IndexError()):
            def action(store):
                store.come(2)
                store.back()
                store.back()
                raise error

            with self.assertRaises(type(error)) as caught:
                self.store.trying(action)
            self.assertIs(caught.exception, error)
            self.assert_as_before()

    def test_errors_of_the_store_itself(self):
        self.assertRaises(NoNumber, self.store.trying, lambda store: store.come(1) and store.come(3))
        self.assertRaises(NoLetter, self.store.trying, lambda store: store.come(1) and store.wait_of(99))
        self.assert_as_before()
        self.store = led_store(U, 2, (2, 2))
        self.before = past(self.store)
        self.assertRaises(Meet, self.store.trying, lambda store: store.come(2))
        self.assert_as_before()

    def test_trials_within_trials(self):
        def inner(store):
            store.back()
            store.back()
            store.come(0)
            return seen(store)

        def outer(store):
            store.come(1)
            between = past(store)
            self.assertEqual(store.trying(inner), told(T, 2, (2, 2, 0)))
            self.assertEqual(past(store), between)
            with self.assertRaises(Unlike):
                store.trying(lambda same: same.back() or self.fail_with(Unlike()))
            self.assertEqual(past(store), between)
            store.come(0)
            return seen(store)

        self.assertEqual(self.store.trying(outer), told(T, 2, (2, 2, 1, 1, 0)))
        self.assert_as_before()
        self.assertRaises(Unlike, self.store.trying, lambda store: store.trying(lambda same: self.fail_with(Unlike())))
        self.assert_as_before()

    def fail_with(self, error):
        raise error

    def test_the_outer_name(self):
        def action(_):
            self.store.come(1)
            self.store.back()
            self.store.back()
            self.store.come(2)
            return seen(self.store)

        self.assertEqual(self.store.trying(action), told(T, 2, (2, 2, 2)))
        self.assert_as_before()

    def test_copies_that_are_made_stay_as_they_are(self):
        copies = []

        def action(store):
            copies.append(store.copy())
            store.come(2)
            copies.append(store.copy())
            store.back()
            store.back()
            copies.append(store.copy())
            copies[2].come(0)
            store.come(1)

        self.store.trying(action)
        self.assert_as_before()
        for other, comings in zip(copies, ((2, 2, 1), (2, 2, 1, 2), (2, 2, 0))):
            self.assertEqual(past(other), past(led_store(T, 2, comings)))
            other.come(1)
            self.assertEqual(seen(other), told(T, 2, comings + (1,)))
        self.assert_as_before()

    def test_it_goes_on_behind_a_trial(self):
        self.store.trying(lambda store: store.come(2))
        self.assertEqual(self.store.come(0), (3, ()))
        self.assertEqual(seen(self.store), told(T, 2, (2, 2, 1, 0)))
        self.store.back()
        self.assert_as_before()


class WrongTest(unittest.TestCase):
    def test_wrong_arguments(self):
        assert_errors(self, Store, (T, 2), [(1, NoComers, wrong_comers())])

    def test_wrong_numbers_change_nothing(self):
        for comers in (2, 3, 4):
            store = Store(LONGEST, comers)
            store.come(2)
            before = past(store)
            for thing in wrong_numbers(comers):
                with self.subTest(thing=repr(thing)[:40]):
                    with self.assertRaises(NoNumber) as caught:
                        store.come(thing)
                    self.assertIs(type(caught.exception), NoNumber)
            self.assertEqual(past(store), before)

    def test_a_wrong_number_comes_ahead_of_a_meeting(self):
        store = led_store(LATE, 4, (4,))
        self.assertRaises(NoNumber, store.come, 5)
        self.assertRaises(Meet, store.come, 0)

    def test_wrong_letters(self):
        store = led_store(T, 2, (2, 2))
        assert_errors(self, store.wait_of, (3,), [(0, NoLetter, odd_numbers() + [4, 5])])
        for thing in odd_numbers() + [0]:
            self.assertRaises(NoLetter, Store(T, 2).wait_of, thing)

    def test_a_store_is_equal_to_itself_alone(self):
        store = Store(T, 2)
        self.assertEqual(store, store)
        self.assertNotEqual(store, Store(T, 2))
        self.assertNotEqual(store, T)
        self.assertIsInstance(NoLetter(), LoopError)


if __name__ == "__main__":
    unittest.main()
