import random
import unittest

from common import assert_errors, odd_things, odd_tuples, random_comings, wrong_bounds, wrong_comers, wrong_loops, wrong_numbers
from loopstore.days import day, is_day
from loopstore.errors import (
    NoBound, NoComers, NoComings, NoLaying, NoLoops, NoNumber, NoPlan, NotKept, NothingDone, NotLost, Over, TooMany)
from loopstore.games import closed, closed_of, is_closed
from loopstore.players import Caller, Switch, led
from loopstore.search import table_for
from loopstore.stands import behind, layings_out

KEPT = [((1,), 2, 1), ((1, 2), 2, 3), ((1, 1, 3), 2, 5), ((1, 1, 2), 3, 4), ((1, 1, 1, 3, 3), 4, 7), ((1,) * 5, 4, 5)]
LOST = [((2,), 2, 1), ((1,), 2, 2), ((1, 2), 3, 3), ((1, 2), 2, 4), ((1, 1, 3), 3, 4), ((1,) * 5, 2, 60), ((40,) * 8, 4, 60)]
LARGE = (1, 1, 2, 2, 3, 3, 3)


class LedTest(unittest.TestCase):
    def test_plain_days(self):
        plan = closed((1,), 2, 1)
        self.assertEqual(led((1,), 2, 1, plan, ()), ())
        self.assertEqual(led((1,), 2, 1, plan, (1, 1, 0)), ())
        self.assertEqual(led((1,), 2, 1, plan, (2,)), ((0, 1, 0),))
        # The letter 3 comes with the wait 2 and is turned away.
        self.assertEqual(led((1,), 2, 1, plan, (2, 2, 0, 2)), ((0, 1, 0), (1, 2, 0), (3, 5, 0)))

    def test_a_plan_by_a_table_leads_its_day(self):
        chance = random.Random(4)
        for loops, comers, bound in KEPT[:5]:
            table = table_for(loops, comers, bound)
            plan = closed_of(table, comers)
            for _ in range(30):
                comings = random_comings(chance, comers, chance.choice([0, 1, 5, 30]))
                told = led(loops, comers, bound, plan, comings)
                self.assertIs(is_day(loops, comers, bound, comings, told), True)
            if bound < 5:
                self.assertEqual(led(loops, comers, bound, plan, (2, 2, 2)), tuple(day(table, comers, (2, 2, 2))))

    def test_what_is_led_is_a_day(self):
        chance = random.Random(5)
        for loops, comers, bound in KEPT:
            plan = closed(loops, comers, bound)
            for ticks in (0, 1, 2, 7, 40, 400):
                comings = random_comings(chance, comers, ticks)
                told = led(loops, comers, bound, plan, comings)
                self.assertIs(type(told), tuple)
                self.assertEqual(list(told), sorted(told))
                self.assertIs(is_day(loops, comers, bound, comings, told), True)
            comings = (comers,) * 400
            self.assertIs(is_day(loops, comers, bound, comings, led(loops, comers, bound, plan, comings)), True)

    def test_it_follows_the_plan(self):
        plan = closed((1, 1), 2, 1)
        self.assertEqual(led((1, 1), 2, 1, plan, (2,)), ((0, 1, 0),))
        other = {stand: tuple(tuple((place, 1) for place, loop in laying) for laying in plan[stand]) for stand in plan}
        self.assertEqual(led((1, 1), 2, 1, other, (2,)), ((0, 1, 1),))
        before = repr(other)
        led((1, 1), 2, 1, other, (2,) * 50)
        self.assertEqual(repr(other), before)

    def test_wrong_arguments_and_their_order(self):
        plan = closed((1, 2), 2, 3)
        wrong = odd_things() + [{}, {(): ()}, [], (), {**plan, (False,): plan[(0,)], (): None}, list(plan.items()),
                                {stand: plan[stand] for stand in plan if stand}, closed((1, 2), 2, 2), closed((1, 1, 1), 2, 3)]
        comings = [thing for thing in odd_tuples() if thing != ()] + [(0,) * 401, (3,), (-1,), (1, True), [1, 1]]
        assert_errors(self, led, ((1, 2), 2, 3, plan, (2, 2)), [
            (0, NoLoops, wrong_loops()), (1, NoComers, wrong_comers()), (2, NoBound, wrong_bounds()),
            (3, NoPlan, wrong), (4, NoComings, comings)])


class SwitchTest(unittest.TestCase):
    def test_a_plain_switch(self):
        switch = Switch((1,), 2, 1)
        self.assertEqual((switch.stand(), switch.ticks()), ((), 0))
        self.assertEqual(switch.come(2), ((1, 0),))
        self.assertEqual((switch.stand(), switch.ticks()), ((0,), 1))
        self.assertEqual(switch.come(0), ())
        self.assertEqual((switch.stand(), switch.ticks()), ((), 2))
        self.assertIsNone(switch.back())
        self.assertEqual((switch.stand(), switch.ticks()), ((0,), 1))
        self.assertEqual(switch.come(2), ((1, 0),))

    def test_all_comings_are_kept(self):
        chance = random.Random(6)
        for loops, comers, bound in KEPT:
            switch = Switch(loops, comers, bound)
            stands = [()]
            for _ in range(300):
                if chance.random() < 0.2 and len(stands) > 1:
                    switch.back()
                    stands.pop()
                else:
                    number = chance.choice([0, 1, comers, chance.randint(0, comers)])
                    laying = switch.come(number)
                    self.assertIn(laying, layings_out(loops, comers, bound, stands[-1], number))
                    stands.append(behind(loops, comers, bound, stands[-1], number, laying))
                self.assertEqual(switch.stand(), stands[-1])
                self.assertEqual(switch.ticks(), len(stands) - 1)

    def test_what_is_taken_back(self):
        switch = Switch((1, 2), 2, 3)
        self.assertRaises(NothingDone, switch.back)
        told = [switch.come(number) for number in (2, 2, 1, 0)]
        for _ in range(4):
            switch.back()
        self.assertRaises(NothingDone, switch.back)
        self.assertEqual((switch.stand(), switch.ticks()), ((), 0))
        self.assertEqual([switch.come(number) for number in (2, 2, 1, 0)], told)

    def test_wrong_numbers_change_nothing(self):
        for loops, comers, bound in KEPT:
            switch = Switch(loops, comers, bound)
            switch.come(2)
            before = (switch.stand(), switch.ticks())
            assert_errors(self, switch.come, (0,), [(0, NoNumber, wrong_numbers(comers))])
            switch.back()
            self.assertEqual((switch.stand(), switch.ticks()), before)

    def test_switches_go_apart(self):
        one, other = Switch((1, 2), 2, 3), Switch((1, 2), 2, 3)
        one.come(2)
        self.assertEqual((other.stand(), other.ticks()), ((), 0))
        self.assertNotEqual(one, other)

    def test_wrong_arguments_and_their_order(self):
        assert_errors(self, Switch, ((1, 2), 2, 3), [
            (0, NoLoops, wrong_loops()), (1, NoComers, wrong_comers()), (2, NoBound, wrong_bounds())])
        for loops, comers, bound in LOST:
            self.assertRaises(NotKept, Switch, loops, comers, bound)
        for made in (Switch, Caller):
            with self.assertRaises(TooMany) as caught:
                made(LARGE, 2, 8)
            self.assertEqual(caught.exception.most, 2000)


class CallerTest(unittest.TestCase):
    def test_a_plain_caller(self):
        caller = Caller((1,), 2, 2)
        self.assertEqual((caller.stand(), caller.number(), caller.over()), ((), 2, False))
        self.assertGreater(caller.left(), 0)
        self.assertIsNone(caller.lay(((1, 0),)))
        self.assertEqual((caller.stand(), caller.number(), caller.over(), caller.left()), ((0,), None, True, 0))
        self.assertRaises(Over, caller.lay, ())
        self.assertRaises(Over, caller.lay, ((1, 0), (2, 0)))
        self.assertRaises(Over, caller.lay, None)

    def test_over_at_once(self):
        for loops, comers, bound in (((2,), 2, 1), ((40,) * 8, 4, 60)):
            caller = Caller(loops, comers, bound)
            self.assertEqual((caller.stand(), caller.number(), caller.over(), caller.left()), ((), None, True, 0))
            self.assertRaises(Over, caller.lay, ())

    def test_each_switching_loses(self):
        chance = random.Random(8)
        for loops, comers, bound in LOST:
            for _ in range(20):
                caller = Caller(loops, comers, bound)
                stand = ()
                while not caller.over():
                    number, left = caller.number(), caller.left()
                    self.assertEqual(caller.stand(), stand)
                    self.assertTrue(0 <= number <= comers and left > 0)
                    every = layings_out(loops, comers, bound, stand, number)
                    self.assertNotEqual(every, [])
                    laying = chance.choice(every[:50] + every[-50:])
                    caller.lay(laying)
                    stand = behind(loops, comers, bound, stand, number, laying)
                    self.assertLess(caller.left(), left)
                self.assertEqual((caller.number(), caller.left(), caller.stand()), (None, 0, stand))
                # There is a number for which there is no laying-out now.
                self.assertIn([], [layings_out(loops, comers, bound, stand, number) for number in range(comers + 1)])

    def test_wrong_layings_change_nothing(self):
        caller = Caller((1, 2), 2, 4)
        number, left = caller.number(), caller.left()
        right = layings_out((1, 2), 2, 4, (), number)
        wrong = odd_things() + [
            [], list(right[0]), right[0] + ((2, 1),), ((1, 1),), ((True, 0),), ((1, False),), ((1, 2),), ((1,),), ((2, 0),)]
        for thing in wrong:
            if thing not in right or isinstance(thing[0][0], bool) or isinstance(thing[0][1], bool):
                with self.subTest(thing=repr(thing)[:40]):
                    self.assertRaises(NoLaying, caller.lay, thing)
                    self.assertEqual((caller.stand(), caller.number(), caller.left()), ((), number, left))
        caller.lay(right[0])
        self.assertLess(caller.left(), left)

    def test_callers_go_apart(self):
        one, other = Caller((1,), 2, 2), Caller((1,), 2, 2)
        one.lay(((1, 0),))
        self.assertEqual((other.stand(), other.over()), ((), False))

    def test_wrong_arguments_and_their_order(self):
        assert_errors(self, Caller, ((1, 2), 3, 3), [
            (0, NoLoops, wrong_loops()), (1, NoComers, wrong_comers()), (2, NoBound, wrong_bounds())])
        for loops, comers, bound in KEPT:
            self.assertRaises(NotLost, Caller, loops, comers, bound)
            self.assertIs(is_closed(loops, comers, bound, closed(loops, comers, bound)), True)


if __name__ == "__main__":
    unittest.main()
