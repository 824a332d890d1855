import itertools
import random
import unittest

from common import T, assert_errors, odd_things, odd_tuples, wrong_bounds, wrong_comers, wrong_loops, wrong_numbers
from loopstore.errors import NoBound, NoComers, NoLaying, NoLoops, NoNumber, NoStand
from loopstore.stands import behind, layings_out

WRONG_STANDS = [thing for thing in odd_tuples() if thing != ()] + [(0, 0, 0, 0), (0, 2), (1,), (0, -1), (0, True), (0, 1, 3), [0]]


def letters_at(bound, stand, number):
    """The letters in the line as lists [place, ticks until it comes back], and the places at the switch."""
    letters = [[place, left] for place, left in enumerate(stand)]
    for _ in range(number):
        if len(letters) <= bound:
            letters.append([len(letters), 0])
    return letters, [place for place, left in letters if left == 0 and place > 0]


def all_layings(loops, bound, stand, number):
    switch = letters_at(bound, stand, number)[1]
    found = []
    for chosen in itertools.product(range(len(loops)), repeat=len(switch)):
        if len(set(chosen)) == len(chosen) and all(loops[loop] <= place for place, loop in zip(switch, chosen)):
            found.append(tuple(zip(switch, chosen)))
    return sorted(found)


def stand_behind(loops, bound, stand, number, laying):
    letters = letters_at(bound, stand, number)[0]
    for place, loop in laying:
        letters[place][1] = loops[loop]
    return tuple(left - 1 for place, left in letters[1:])


def random_stand(chance, bound):
    return tuple(chance.randint(0, place) for place in range(chance.randint(0, bound)))


class LayingsOutTest(unittest.TestCase):
    def test_example(self):
        self.assertEqual(layings_out((1, 2), 2, 3, (0, 1), 1), [((2, 0),), ((2, 1),)])

    def test_the_empty_stand(self):
        self.assertEqual(layings_out((1, 2), 2, 3, (), 0), [()])
        # The first one to come goes out at once.
        self.assertEqual(layings_out((1, 2), 2, 3, (), 1), [()])
        self.assertEqual(layings_out((1, 2), 2, 3, (), 2), [((1, 0),)])
        self.assertEqual(layings_out((2,), 2, 3, (), 2), [])
        self.assertEqual(layings_out((1, 2, 1), 3, 3, (), 3), [
            ((1, 0), (2, 1)), ((1, 0), (2, 2)), ((1, 2), (2, 0)), ((1, 2), (2, 1))])

    def test_letters_that_are_turned_away(self):
        self.assertEqual(layings_out((1, 1), 4, 1, (), 4), [((1, 0),), ((1, 1),)])
        self.assertEqual(layings_out((1, 1), 4, 1, (0,), 4), [((1, 0),), ((1, 1),)])
        # A stand with as many places as the bound: just one more letter comes in.
        self.assertEqual(layings_out((1, 2, 3), 4, 3, (0, 1, 1), 4), [((3, 0),), ((3, 1),), ((3, 2),)])
        self.assertEqual(layings_out((1, 2, 3), 4, 3, (0, 1, 1), 1), [((3, 0),), ((3, 1),), ((3, 2),)])
        self.assertEqual(layings_out((1, 2, 3), 4, 3, (0, 1, 1), 0), [()])

    def test_who_comes_back_is_at_the_switch(self):
        self.assertEqual(layings_out((1, 2), 2, 5, (0, 0, 2, 0), 0), [((1, 0), (3, 1))])
        self.assertEqual(layings_out((2, 1), 2, 5, (0, 0, 2, 0), 0), [((1, 1), (3, 0))])
        self.assertEqual(layings_out((1, 2), 2, 5, (0, 0, 0, 0), 0), [])

    def test_a_loop_is_at_most_as_long_as_the_number_of_the_place(self):
        self.assertEqual(layings_out((3,), 2, 5, (0, 1, 1), 1), [((3, 0),)])
        self.assertEqual(layings_out((4,), 2, 5, (0, 1, 1), 1), [])

    def test_random_stands_by_trying_all_layings(self):
        chance = random.Random(2)
        empty = 0
        for _ in range(3000):
            loops = tuple(chance.randint(1, 6) for _ in range(chance.randint(1, 4)))
            comers = chance.randint(2, 4)
            bound = chance.randint(1, 8)
            stand = random_stand(chance, bound)
            number = chance.randint(0, comers)
            told = layings_out(loops, comers, bound, stand, number)
            self.assertEqual(told, all_layings(loops, bound, stand, number) if len(stand) < 7 or told else [])
            self.assertIs(type(told), list)
            empty += told == []
            for laying in told[:5]:
                found = behind(loops, comers, bound, stand, number, laying)
                self.assertEqual(found, stand_behind(loops, bound, stand, number, laying))
                self.assertIs(type(found), tuple)
        self.assertTrue(500 < empty < 2500)

    def test_the_limits(self):
        stand = tuple(range(60))
        self.assertEqual(layings_out((40,), 4, 60, stand, 4), [((60, 0),)])
        self.assertEqual(behind((40,), 4, 60, stand, 4, ((60, 0),)), tuple(range(59)) + (39,))
        self.assertEqual(behind((40,), 4, 60, stand, 0, ()), tuple(range(59)))
        self.assertEqual(layings_out((1,) * 8, 4, 60, (0,) * 60, 0), [])
        told = layings_out((1,) * 8, 4, 8, (0,) * 8, 1)
        self.assertEqual(told, [tuple(zip(range(1, 9), row)) for row in itertools.permutations(range(8))])

    def test_wrong_arguments_and_their_order(self):
        assert_errors(self, layings_out, ((1, 2), 2, 3, (0, 1), 1), [
            (0, NoLoops, wrong_loops()), (1, NoComers, wrong_comers()), (2, NoBound, wrong_bounds()),
            (3, NoStand, WRONG_STANDS), (4, NoNumber, wrong_numbers(2))])
        self.assertEqual(len(layings_out((1, 2), 4, 3, (0, 1), 0)), 1)
        self.assertRaises(NoNumber, layings_out, (1, 2), 3, 3, (0, 1), 4)
        self.assertEqual(layings_out((1, 2), 4, 3, (0, 1), 4), [((2, 0), (3, 1)), ((2, 1), (3, 0))])
        self.assertRaises(NoStand, layings_out, (1, 2), 2, 1, (0, 1), 1)

    def test_each_list_is_new(self):
        layings_out((1, 2), 2, 3, (0, 1), 1).clear()
        self.assertEqual(len(layings_out((1, 2), 2, 3, (0, 1), 1)), 2)


class BehindTest(unittest.TestCase):
    def test_plain_stands(self):
        self.assertEqual(behind((1, 2), 2, 3, (), 0, ()), ())
        self.assertEqual(behind((1, 2), 2, 3, (), 1, ()), ())
        self.assertEqual(behind((1, 2), 2, 3, (), 2, ((1, 0),)), (0,))
        self.assertEqual(behind((1, 2), 2, 3, (0, 1), 1, ((2, 0),)), (0, 0))
        self.assertEqual(behind((1, 2), 2, 3, (0, 1), 1, ((2, 1),)), (0, 1))
        self.assertEqual(behind((1, 2, 3), 4, 3, (0, 1, 1), 4, ((3, 2),)), (0, 0, 2))
        self.assertEqual(behind((1, 2), 2, 5, (0, 0, 2, 0), 0, ((1, 0), (3, 1))), (0, 1, 1))

    def test_all_layings_out_and_no_others_lead_to_a_stand(self):
        led = 0
        for loops, bound, stand, number in (
                ((1, 2), 3, (0, 1), 1), ((1, 2, 1), 3, (), 3), ((1, 2), 3, (0, 0), 1), ((3, 1), 4, (0, 0, 1), 1)):
            pairs = list(itertools.product(range(-1, 5), range(-1, 4)))
            things = [()] + [(pair,) for pair in pairs] + list(itertools.product(pairs, repeat=2))
            right = layings_out(loops, 4, bound, stand, number)
            for thing in things:
                if thing in right:
                    self.assertEqual(
                        behind(loops, 4, bound, stand, number, thing), stand_behind(loops, bound, stand, number, thing))
                    led += 1
                else:
                    self.assertRaises(NoLaying, behind, loops, 4, bound, stand, number, thing)
        self.assertEqual(led, 2 + 4 + 1 + 1)

    def test_wrong_layings(self):
        right = ((1, 0), (2, 1))
        self.assertEqual(behind((1, 2, 2), 3, 3, (), 3, right), (0, 1))
        wrong = odd_things() + [
            list(right), right[::-1], right[:1], right[1:], right + ((3, 2),), ((0, 2),) + right, ([1, 0], (2, 1)), (1, 0),
            ((True, 0), (2, 1)), ((1, False), (2, 1)), ((1, 0), (2, True)), ((1, 0), (2, 3)), ((1, 0), (2, -1)), ((1, 0), (2, 0)),
            ((1, 1), (2, 0)), ((1, 0), (2, 1, 0)), ((1, 0), (2,)), ((1, 0), (2, None)), ((1, 0), None), ((1, 0), "21"), (),
            ((1, 0), T), {1: 0, 2: 1}, 0, ((1, 0), (2, (1,))), ((1, 0), (2, 10 ** 59)), ((1, 0), (1, 0)), [], {(1, 0): (2, 1)},
        ]
        assert_errors(self, behind, ((1, 2, 2), 3, 3, (), 3, right), [(5, NoLaying, wrong)])

    def test_wrong_arguments_and_their_order(self):
        assert_errors(self, behind, ((1, 2), 2, 3, (0, 1), 1, ((2, 0),)), [
            (0, NoLoops, wrong_loops()), (1, NoComers, wrong_comers()), (2, NoBound, wrong_bounds()),
            (3, NoStand, WRONG_STANDS), (4, NoNumber, wrong_numbers(2)), (5, NoLaying, odd_things())])


if __name__ == "__main__":
    unittest.main()
