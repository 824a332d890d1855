import math
import random
import unittest
from fractions import Fraction

from common import T, U, V, assert_errors, nested, odd_numbers, odd_things, random_table, wrong_bounds, wrong_comers
from loopstore.doubling import doubling_table
from loopstore.errors import NoBound, NoComers, NoFraction, NoLoop, NoWeights, OtherBounds
from loopstore.lines import comings_for, is_walk, nexts, spots, waits
from loopstore.rates import ahead_of, is_rate_paper, rate, rate_paper, share, work
from loopstore.search import table_for
from loopstore.tables import Table

SMALL = ((0, 1), (0, 0))
WRONG_FRACTIONS = odd_things() + [
    1, 0, (), (1,), (1, 2, 3), [1, 2], (1, 0), (1, -1), (-1, -2), (2, 4), (0, 2), (0, 0), (6, 3), (-2, 4), (True, 1), (1, True),
    (1, None), ("1", 2), (1, (2,)), ((1, 2),), (1, T), (10 ** 59, 10 ** 59), {1: 2}]


def weigh(weights, spots_of_walk):
    return sum(weights[one[0]][other[0]] for one, other in zip(spots_of_walk, spots_of_walk[1:]))


def weigh_round(weights, spots_of_round):
    return weigh(weights, spots_of_round + spots_of_round[:1])


def greatest_by_rounds(comers, bound, weights):
    """The greatest rate of all rounds without a spot twice."""
    best = None
    walks = [(spot,) for spot in spots(comers, bound) if spot[1] == 1]
    while walks:
        walk = walks.pop()
        for spot in nexts(comers, bound, walk[-1]):
            if spot == walk[0]:
                here = Fraction(weigh_round(weights, walk), len(walk))
                best = here if best is None else max(best, here)
            elif spot not in walk:
                walks.append(walk + (spot,))
    return best


def random_weights(chance, bound, most):
    return tuple(tuple(chance.randint(-most, most) for _ in range(bound + 1)) for _ in range(bound + 1))


def coming_in(table):
    rows = ((),) + table.rows
    return [[len(set(other) - set(row)) for other in rows] for row in rows]


class RoundsTest(unittest.TestCase):
    def assert_round(self, comers, bound, weights, told):
        self.assertIs(type(told), tuple)
        fraction, spots_of_round = told
        self.assertIs(type(spots_of_round), tuple)
        self.assertTrue(is_walk(comers, bound, spots_of_round))
        self.assertIn(spots_of_round[0], nexts(comers, bound, spots_of_round[-1]))
        self.assertEqual(Fraction(*fraction), Fraction(weigh_round(weights, spots_of_round), len(spots_of_round)))
        self.assertEqual(math.gcd(*fraction), 1)
        self.assertGreaterEqual(fraction[1], 1)


class RateTest(RoundsTest):
    def test_plain_weights(self):
        self.assertEqual(rate(2, 1, SMALL)[0], (1, 2))
        self.assertEqual(rate(2, 1, ((0, 0), (0, 0)))[0], (0, 1))
        self.assertEqual(rate(2, 1, ((-99, -99), (-99, -99)))[0], (-99, 1))
        self.assertEqual(rate(4, 1, ((99, 99), (99, 99)))[0], (99, 1))
        # The wait rises by 2 within one tick just for 3 comers, else by (0, 1), (1, 2), (1, 1), (2, 2).
        self.assertEqual(rate(2, 2, ((-9, -9, -9), (-9, -9, -9), (30, -9, -9)))[0], (3, 4))
        self.assertEqual(rate(3, 2, ((-9, -9, -9), (-9, -9, -9), (30, -9, -9)))[0], (4, 1))
        self.assertEqual(rate(2, 2, ((-4, -2, -9), (-3, -4, -3), (-4, -4, -3)))[0], (-5, 2))

    def test_all_rounds_of_small_bounds(self):
        chance = random.Random(11)
        halves = negative = 0
        for _ in range(150):
            comers, bound, most = chance.choice([2, 3, 4]), chance.choice([1, 2, 3]), chance.choice([1, 3, 99])
            weights = random_weights(chance, bound, most)
            told = rate(comers, bound, weights)
            self.assert_round(comers, bound, weights, told)
            self.assertEqual(Fraction(*told[0]), greatest_by_rounds(comers, bound, weights))
            halves += told[0][1] > 1
            negative += told[0][0] < 0
        self.assertGreater(halves, 20)
        self.assertGreater(negative, 2)

    def test_the_greatest_bound(self):
        chance = random.Random(12)
        for comers in (2, 4):
            for weights in (random_weights(chance, 60, 99), random_weights(chance, 60, 1)):
                told = rate(comers, 60, weights)
                self.assert_round(comers, 60, weights, told)
                self.assertIs(is_rate_paper(comers, 60, weights, told[0], rate_paper(comers, 60, weights, told[0])), True)
        # The longest way up: a letter more at each second step.
        weights = tuple(tuple(99 if (one, other) == (60, 0) else 0 if other <= one + 1 else -99 for other in range(61))
                        for one in range(61))
        self.assertEqual(rate(2, 60, weights)[0], (33, 40))
        self.assertEqual(rate(4, 60, weights)[0], (99, 80))

    def test_a_round_is_what_comes_again_and_again(self):
        chance = random.Random(13)
        for _ in range(30):
            comers, bound = chance.choice([2, 3, 4]), chance.choice([1, 2, 4])
            weights = random_weights(chance, bound, 9)
            fraction, spots_of_round = rate(comers, bound, weights)
            times = 60 // len(spots_of_round)
            comings, letter = comings_for(comers, bound, spots_of_round * times)
            had = waits(comers, bound, comings)[letter:]
            self.assertEqual(had, [wait for wait, turn in spots_of_round] * times)
            total = sum(weights[one][other] for one, other in zip(had, had[1:])) + weights[had[-1]][had[0]]
            self.assertEqual(Fraction(total, len(had)), Fraction(*fraction))

    def test_wrong_arguments_and_their_order(self):
        wrong = odd_things() + [
            (), [], 0, ((0, 1), (0, 0), (0, 0)), ((0, 1),), [(0, 1), (0, 0)], ((0, 1), [0, 0]), ((0, 1), (0, 0, 0)), ((0, 1), (0,)),
            ((0, 100), (0, 0)), ((0, 1), (-100, 0)), ((0, True), (0, 0)), ((0, 1), (0, False)), ((0, 1), (0, None)), ((0, 1), None),
            ((0, 1), (0, "0")), ((0, 1), "00"), ((0, 1), (0, (0,))), ((0, 1), T), ((0, 1), {0: 0, 1: 0}), ((0, 1), (0, 10 ** 59)),
            ((0,), (0,)), ((0, 0, 0),) * 3]
        steps = [(0, NoComers, wrong_comers()), (1, NoBound, wrong_bounds()), (2, NoWeights, wrong)]
        assert_errors(self, rate, (2, 1, SMALL), steps)
        steps.append((3, NoFraction, WRONG_FRACTIONS))
        assert_errors(self, rate_paper, (2, 1, SMALL, (1, 2)), steps)
        assert_errors(self, is_rate_paper, (2, 1, SMALL, (1, 2), {}), steps)
        self.assertEqual(rate(2, 1, ((-99, 99), (99, -99)))[0], (99, 1))
        self.assertRaises(NoWeights, rate, 2, 2, SMALL)


class PaperTest(unittest.TestCase):
    RIGHT = {(0, 1): (0, 1), (1, 1): (1, 2), (1, 2): (1, 2)}

    def judge(self, thing, fraction=(1, 2)):
        before = repr(thing)
        told = is_rate_paper(2, 1, SMALL, fraction, thing)
        self.assertEqual(repr(thing), before)
        return told

    def by_definition(self, comers, bound, weights, fraction, thing):
        if set(thing) != set(spots(comers, bound)):
            return False
        for one in thing:
            for other in nexts(comers, bound, one):
                weight = weights[one[0]][other[0]]
                if Fraction(*thing[other]) < Fraction(*thing[one]) + weight - Fraction(*fraction):
                    return False
        return True

    def test_the_seventh_fact(self):
        chance = random.Random(14)
        for _ in range(120):
            comers, bound = chance.choice([2, 3, 4]), chance.choice([1, 2, 5])
            weights = random_weights(chance, bound, chance.choice([1, 9, 99]))
            top = Fraction(*rate(comers, bound, weights)[0])
            for more in (Fraction(0), Fraction(1, 10 ** 30), Fraction(chance.randint(1, 99), 7), Fraction(10 ** 58)):
                for sought in (top + more, top - more):
                    fraction = (sought.numerator, sought.denominator)
                    told = rate_paper(comers, bound, weights, fraction)
                    self.assertIs(told is not None, sought >= top)
                    if told is not None:
                        self.assertTrue(self.by_definition(comers, bound, weights, fraction, told))
                        self.assertIs(is_rate_paper(comers, bound, weights, fraction, told), True)
                        for height in told.values():
                            self.assertEqual((math.gcd(*height), height[1] > 0), (1, True))

    def test_right_papers(self):
        self.assertIs(self.judge(self.RIGHT), True)
        self.assertIs(self.judge(rate_paper(2, 1, SMALL, (1, 2))), True)
        self.assertIs(self.judge({spot: (0, 1) for spot in self.RIGHT}, (1, 1)), True)
        self.assertIs(self.judge({(0, 1): (-1, 2), (1, 1): (0, 1), (1, 2): (0, 1)}), True)
        self.assertIs(self.judge({(1, 2): (1, 2), (1, 1): (1, 2), (0, 1): (0, 1)}), True)

    def test_each_step_is_judged(self):
        self.assertIs(self.judge({spot: (0, 1) for spot in self.RIGHT}), False)
        for spot in self.RIGHT:
            for height in ((-5, 1), (5, 1), (1, 3), (2, 3), (-1, 3)):
                thing = {**self.RIGHT, spot: height}
                self.assertIs(self.judge(thing), self.by_definition(2, 1, SMALL, (1, 2), thing))
        self.assertIs(self.judge(self.RIGHT, (49, 99)), False)
        self.assertIs(self.judge(self.RIGHT, (50, 99)), True)

    def test_changed_papers_by_the_definition(self):
        chance = random.Random(15)
        kept = {True: 0, False: 0}
        for _ in range(400):
            comers, bound = chance.choice([2, 3]), chance.choice([1, 2])
            weights = random_weights(chance, bound, 2)
            fraction, _ = rate(comers, bound, weights)
            thing = rate_paper(comers, bound, weights, fraction)
            spot = chance.choice(list(thing))
            height = Fraction(*thing[spot]) + Fraction(chance.randint(-3, 3), chance.randint(1, 3))
            thing[spot] = (height.numerator, height.denominator)
            told = is_rate_paper(comers, bound, weights, fraction, thing)
            self.assertIs(told, self.by_definition(comers, bound, weights, fraction, thing))
            kept[told] += 1
        self.assertGreater(min(kept.values()), 50)

    def test_the_spots_are_exactly_all(self):
        for spot in self.RIGHT:
            self.assertIs(self.judge({key: self.RIGHT[key] for key in self.RIGHT if key != spot}), False)
        for key in ((0, 2), (2, 1), (1, 3), (0, 0), (-1, 1), (), (0,), 0, "", None, (0, 1, 0), (0, (1,)), (10 ** 59, 1)):
            self.assertIs(self.judge({**self.RIGHT, key: (0, 1)}), False)
            self.assertIs(self.judge({key: (0, 1), (1, 1): (1, 2), (1, 2): (1, 2)}), False)

    def test_a_flag_in_a_key_makes_it_none(self):
        for key in ((False, 1), (0, True), (False, True)):
            thing = {key: (0, 1), (1, 1): (1, 2), (1, 2): (1, 2)}
            self.assertEqual(thing, self.RIGHT)
            self.assertIs(self.judge(thing), False)
        self.assertIs(self.judge({(0, 1): (0, 1), (1, 1): (1, 2), (True, 2): (1, 2)}), False)

    def test_things_of_other_kinds(self):
        wrong = odd_things() + [
            {}, [], (), 0, list(self.RIGHT.items()), tuple(self.RIGHT.items()), list(self.RIGHT), {(0, 1): (0, 1)},
            {0: 0, 1: 0, 2: 0}, {1: nested(tuple, 38, 1)}]
        for thing in wrong + [{**self.RIGHT, (1, 1): height} for height in WRONG_FRACTIONS]:
            with self.subTest(thing=repr(thing)[:60]):
                self.assertIs(self.judge(thing), False)

    def test_each_dict_is_new(self):
        rate_paper(2, 1, SMALL, (1, 2)).clear()
        self.assertEqual(len(rate_paper(2, 1, SMALL, (1, 2))), 3)


class ShareAndWorkTest(RoundsTest):
    def test_plain_tables(self):
        self.assertEqual(share(T, 2, 0)[0], (1, 2))
        self.assertEqual(share(T, 2, 1)[0], (1, 2))
        self.assertEqual(work(T, 2)[0], (1, 1))
        self.assertEqual(work(V, 2)[0], (3, 2))
        # The loops of a row are told apart, however often they stand there.
        self.assertEqual(work(Table((1,), ((0,), (0, 0))), 2)[0], (1, 2))
        self.assertEqual(share(Table((1, 7), ((0,), (0, 0))), 2, 1)[0], (0, 1))

    def test_they_are_rates_of_weights(self):
        chance = random.Random(16)
        for _ in range(40):
            loops = chance.choice([(1,), (1, 2), (1, 1, 3), (2, 1, 2, 5)])
            table = random_table(chance, loops, chance.choice([1, 2, 3]))
            comers = chance.choice([2, 3, 4])
            rows = ((),) + table.rows
            told = work(table, comers)
            weights = coming_in(table)
            self.assert_round(comers, table.bound, weights, told)
            self.assertEqual(Fraction(*told[0]), greatest_by_rounds(comers, table.bound, weights))
            for loop in range(len(loops)):
                weights = [[int(loop in other and loop not in row) for other in rows] for row in rows]
                told = share(table, comers, loop)
                self.assert_round(comers, table.bound, weights, told)
                self.assertEqual(Fraction(*told[0]), greatest_by_rounds(comers, table.bound, weights))

    def test_the_greatest_bound(self):
        table = doubling_table((1, 2, 4, 8, 16, 29))
        for loop in range(6):
            told = share(table, 2, loop)
            rows = ((),) + table.rows
            self.assert_round(2, 60, [[int(loop in other and loop not in row) for other in rows] for row in rows], told)
            self.assertLessEqual(Fraction(*told[0]), Fraction(1, 2))
        self.assert_round(4, 60, coming_in(table), work(table, 4))

    def test_wrong_arguments_and_their_order(self):
        assert_errors(self, share, (T, 2, 1), [
            (1, NoComers, wrong_comers()), (2, NoLoop, [thing for thing in odd_numbers() if thing != 0] + [-1, 2, 8])])
        assert_errors(self, share, (V, 2, 2), [(2, NoLoop, [3, -1])])
        assert_errors(self, work, (T, 2), [(1, NoComers, wrong_comers())])


class AheadOfTest(unittest.TestCase):
    def weights(self, one, other):
        return [[more - less for more, less in zip(row, same)] for row, same in zip(coming_in(one), coming_in(other))]

    def assert_ahead(self, one, other, comers):
        told = ahead_of(one, other, comers)
        self.assertIs(type(told), tuple)
        weights = self.weights(one, other)
        greatest = rate(comers, one.bound, tuple(map(tuple, weights)))[0]
        if told[0] == "round":
            self.assertEqual(len(told), 2)
            self.assertIs(type(told[1]), tuple)
            self.assertTrue(is_walk(comers, one.bound, told[1]))
            self.assertIn(told[1][0], nexts(comers, one.bound, told[1][-1]))
            self.assertGreater(weigh_round(weights, told[1]), 0)
            self.assertGreater(greatest[0], 0)
            return "round"
        name, number, walk = told
        self.assertEqual(name, "most")
        self.assertIs(type(walk), tuple)
        self.assertTrue(is_walk(comers, one.bound, walk))
        self.assertEqual(weigh(weights, walk), number)
        if len(walk) <= 60:
            comings, letter = comings_for(comers, one.bound, walk)
            had = waits(comers, one.bound, comings)[letter:]
            self.assertEqual(sum(weights[before][behind] for before, behind in zip(had, had[1:])), number)
        self.assertLessEqual(greatest[0], 0)
        self.assertEqual(number, self.most_by_steps(comers, one.bound, weights))
        return number

    def most_by_steps(self, comers, bound, weights):
        """The greatest weight of all walks with at most so many steps that more would go in rounds."""
        most = {spot: 0 for spot in spots(comers, bound) if spot[1] == 1}
        best = 0
        for _ in spots(comers, bound):
            further = {}
            for one, height in most.items():
                for other in nexts(comers, bound, one):
                    here = height + weights[one[0]][other[0]]
                    further[other] = max(further.get(other, here), here)
            most = further
            best = max([best] + list(most.values()))
        return best

    def test_plain_tables(self):
        # By both tables each row has the same loops.
        for one, other in ((T, U), (U, T), (T, T)):
            self.assertEqual(ahead_of(one, other, 2)[:2], ("most", 0))
        one = Table((1, 1), ((0,), (0, 1)))
        other = Table((1, 2), ((0,), (1,)))
        self.assertEqual(self.assert_ahead(one, other, 2), 0)
        self.assertEqual(self.assert_ahead(other, one, 2), "round")
        one = Table((1, 1, 2), ((1,), (0, 0), (2, 0), (0, 1, 2), (2, 1, 1, 1)))
        other = Table((1, 1, 2), ((1,), (2,), (1, 0, 0), (2, 2), (1, 1, 0, 2)))
        self.assertEqual(self.assert_ahead(one, other, 2), 2)

    def test_random_tables(self):
        chance = random.Random(17)
        seen = []
        for _ in range(300):
            bound = chance.choice([1, 2, 3, 5])
            one = random_table(chance, chance.choice([(1,), (1, 2), (1, 1, 3), (2, 1, 2)]), bound)
            other = random_table(chance, chance.choice([(1,), (1, 2), (1, 1, 3), (2, 1, 2)]), bound)
            seen.append(self.assert_ahead(one, other, chance.choice([2, 3, 4])))
        for some in ("round", 0, 1):
            self.assertGreater(seen.count(some), 3)

    def test_the_greatest_bound(self):
        one = doubling_table((1, 2, 4, 8, 16, 29))
        other = Table((1,), tuple((0,) * many for many in range(1, 61)))
        self.assert_ahead(other, one, 4)
        self.assertEqual(self.assert_ahead(one, other, 2), "round")
        self.assertEqual(self.assert_ahead(one, table_for((1, 2, 4, 8, 16, 29), 2, 60), 2), 0)

    def test_wrong_arguments_and_their_order(self):
        assert_errors(self, ahead_of, (T, U, 2), [(2, NoComers, wrong_comers())])
        self.assertRaises(OtherBounds, ahead_of, T, V, 2)
        self.assertRaises(OtherBounds, ahead_of, V, T, 4)
        self.assertRaises(NoComers, ahead_of, T, V, 5)
        for thing in [thing for thing in odd_things() if not isinstance(thing, Table)]:
            self.assertRaises(OtherBounds, ahead_of, T, thing, 2)
            self.assertRaises(OtherBounds, ahead_of, thing, T, 2)


if __name__ == "__main__":
    unittest.main()
