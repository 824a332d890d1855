import itertools
import random
import unittest

from common import led_line, odd_numbers, odd_things, odd_tuples
from loopstore.errors import NoBound, NoComers, NoComings, NoSpot, NoWalk
from loopstore.lines import comes, comings_for, lines, nexts, outs, spots, waits, walk

LINE_CALLS = (waits, lines, outs, walk)


def many_comings():
    """Triples (comers, bound, comings): small ones, and ones at the limits."""
    chance = random.Random(12)
    for comers in (2, 3, 4):
        for bound in (1, 2, 3, 7, 59, 60):
            for ticks in (0, 1, 5, 30, 400):
                most = chance.randint(1, comers)
                yield comers, bound, tuple(chance.randint(0, most) for _ in range(ticks))
            yield comers, bound, (comers,) * 400
            yield comers, bound, (0,) * 400
            yield comers, bound, (comers, 0) * 200


def random_walk(chance, comers, bound, many):
    row = [(chance.randint(0, bound), 1)]
    while len(row) < many:
        row.append(chance.choice(nexts(comers, bound, row[-1])))
    return row


class ComingsTest(unittest.TestCase):
    def test_comers_are_two_to_four(self):
        for comers in (2, 3, 4):
            self.assertEqual(comes(comers, (comers,)), [0] * comers)
        for thing in odd_numbers() + [0, 1, 5]:
            with self.subTest(thing=repr(thing)[:40]):
                self.assertRaises(NoComers, comes, thing, ())
                self.assertRaises(NoComers, spots, thing, 1)
                self.assertRaises(NoComers, nexts, thing, 1, (0, 1))
                self.assertRaises(NoComers, comings_for, thing, 1, ((0, 1),))
                for call in LINE_CALLS:
                    self.assertRaises(NoComers, call, thing, 1, ())

    def test_a_bound_is_one_to_sixty(self):
        self.assertEqual(waits(2, 1, (2, 2)), [0, 1, 1, None])
        self.assertEqual(max(wait for wait in waits(4, 60, (4,) * 60) if wait is not None), 60)
        for thing in odd_numbers() + [0, 61]:
            with self.subTest(thing=repr(thing)[:40]):
                self.assertRaises(NoBound, spots, 2, thing)
                self.assertRaises(NoBound, nexts, 2, thing, (0, 1))
                self.assertRaises(NoBound, comings_for, 2, thing, ((0, 1),))
                for call in LINE_CALLS:
                    self.assertRaises(NoBound, call, 2, thing, ())

    def test_comings_are_tuples_of_at_most_400_numbers(self):
        wrong = [thing for thing in odd_tuples() if thing != ()]
        wrong += [(0,) * 401, (1,) * 9999, (3,), (0, 3), (2, 2, -1), [2, 2], "22", ((2, 2),), (2, True), (False, 0)]
        for thing in wrong:
            with self.subTest(thing=repr(thing)[:40]):
                self.assertRaises(NoComings, comes, 2, thing)
                for call in LINE_CALLS:
                    self.assertRaises(NoComings, call, 2, 5, thing)

    def test_comings_are_judged_by_the_comers_of_the_call(self):
        for comers in (2, 3, 4):
            self.assertEqual(len(comes(comers, (comers,) * 400)), 400 * comers)
            self.assertRaises(NoComings, comes, comers, (comers + 1,))
            for call in LINE_CALLS:
                call(comers, 1, (comers,))
                self.assertRaises(NoComings, call, comers, 1, (comers + 1,))

    def test_errors_come_in_their_order(self):
        for call in LINE_CALLS:
            self.assertRaises(NoComers, call, 5, 0, None)
            self.assertRaises(NoComers, call, True, 5, (9,))
            self.assertRaises(NoBound, call, 2, 0, None)
            self.assertRaises(NoBound, call, 2, True, (9,))
        self.assertRaises(NoComers, comes, 5, None)
        self.assertRaises(NoComers, spots, 5, 0)
        self.assertRaises(NoComers, nexts, 5, 0, None)
        self.assertRaises(NoBound, nexts, 2, 0, None)
        self.assertRaises(NoComers, comings_for, 5, 0, None)
        self.assertRaises(NoBound, comings_for, 2, 0, None)


class LineTest(unittest.TestCase):
    def test_examples(self):
        self.assertEqual(waits(2, 1, (2, 2, 0, 1)), [0, 1, 1, None, 0])
        self.assertEqual(comes(2, (2, 2, 0, 1)), [0, 0, 1, 1, 3])
        self.assertEqual(lines(2, 1, (2, 2, 0, 1)), [1, 1, 0, 0])
        self.assertEqual(outs(2, 1, (2, 2, 0, 1)), [(0, 0), (1, 1), (2, 2), (3, 4)])
        self.assertEqual(walk(2, 1, (2, 2, 0, 1)), [(0, 1), (1, 2), (1, 1), (0, 1)])

    def test_nobody_comes(self):
        self.assertEqual(comes(2, ()), [])
        for call in LINE_CALLS:
            self.assertEqual(call(4, 60, ()), [])
        self.assertEqual(lines(2, 1, (0, 0, 0)), [0, 0, 0])
        self.assertEqual(outs(2, 1, (0, 0, 0)), [])

    def test_the_line_goes_on_behind_the_comings(self):
        self.assertEqual(outs(4, 60, (4,)), [(0, 0), (1, 1), (2, 2), (3, 3)])
        self.assertEqual(lines(4, 60, (4,)), [3])

    def test_who_finds_more_than_the_bound_is_turned_away(self):
        self.assertEqual(waits(4, 1, (4, 4)), [0, 1, None, None, 1, None, None, None])
        self.assertEqual(waits(4, 2, (4, 1)), [0, 1, 2, None, 2])
        self.assertEqual(lines(4, 2, (4, 4, 0)), [2, 2, 1])

    def test_all_comings_against_a_line_that_is_led(self):
        for comers, bound, comings in many_comings():
            with self.subTest(comers=comers, bound=bound, comings=comings[:9]):
                letters = led_line(bound, comings)
                self.assertEqual(comes(comers, comings), [letter["tick"] for letter in letters])
                self.assertEqual(waits(comers, bound, comings), [letter["wait"] for letter in letters])
                going = [(letter["out"], at) for at, letter in enumerate(letters) if letter["out"] is not None]
                self.assertEqual(outs(comers, bound, comings), sorted(going))
                kept = [(letter["wait"], letter["turn"]) for letter in letters if letter["wait"] is not None]
                self.assertEqual(walk(comers, bound, comings), kept)
                behind = lines(comers, bound, comings)
                self.assertEqual(len(behind), len(comings))
                for tick, number in enumerate(behind):
                    staying = [at for at in letters if at["wait"] is not None and at["tick"] <= tick < at["out"]]
                    self.assertEqual(number, len(staying))

    def test_each_answer_is_a_new_list_of_plain_numbers(self):
        for call in LINE_CALLS:
            first = call(2, 1, (2, 2, 0, 1))
            told = list(first)
            first.clear()
            self.assertEqual(call(2, 1, (2, 2, 0, 1)), told)
            self.assertIs(type(told), list)
        comes(2, (2,)).append(7)
        self.assertEqual(comes(2, (2,)), [0, 0])
        nexts(2, 2, (1, 1)).append(7)
        self.assertEqual(nexts(2, 2, (1, 1)), [(0, 1), (1, 1), (2, 2)])
        spots(2, 1).append(7)
        self.assertEqual(spots(2, 1), [(0, 1), (1, 1), (1, 2)])


class SpotsTest(unittest.TestCase):
    def all_spots(self, comers, bound):
        turns = itertools.product(range(bound + 1), range(1, comers + 1))
        return sorted((wait, turn) for wait, turn in turns if wait >= turn - 1)

    def test_spots(self):
        self.assertEqual(spots(4, 2), [(0, 1), (1, 1), (1, 2), (2, 1), (2, 2), (2, 3)])
        for comers in (2, 3, 4):
            for bound in (1, 2, 3, 4, 60):
                self.assertEqual(spots(comers, bound), self.all_spots(comers, bound))

    def test_nexts(self):
        self.assertEqual(nexts(2, 2, (1, 1)), [(0, 1), (1, 1), (2, 2)])
        self.assertEqual(nexts(2, 2, (1, 2)), [(0, 1), (1, 1)])
        self.assertEqual(nexts(2, 2, (2, 1)), [(0, 1), (1, 1), (2, 1)])
        for comers in (2, 3, 4):
            for bound in (1, 2, 3, 5, 60):
                every = self.all_spots(comers, bound)
                for wait, turn in every:
                    told = [(wait + 1, turn + 1)] + [(other, 1) for other in range(wait + 1)]
                    self.assertEqual(nexts(comers, bound, (wait, turn)), sorted(set(told) & set(every)))

    def test_what_is_no_spot(self):
        wrong = odd_tuples() + [
            (), (0,), (0, 1, 1), [0, 1], (0, 2), (-1, 1), (3, 1), (2, 0), (2, 3), (1, True), (False, 1), (True, True),
            ("0", 1), (0, None), ((0, 1), (0, 1)), (0, [1]), (10 ** 59, 1),
        ]
        for thing in wrong:
            with self.subTest(thing=repr(thing)[:40]):
                self.assertRaises(NoSpot, nexts, 2, 2, thing)
        self.assertRaises(NoSpot, nexts, 4, 60, (2, 4))
        self.assertRaises(NoSpot, nexts, 4, 60, (61, 1))
        self.assertEqual(len(nexts(4, 60, (60, 4))), 61)

    def test_spots_next_to_one_another_are_what_letters_can_have(self):
        for comers, bound in ((2, 2), (3, 2), (4, 3)):
            found = set()
            for comings in itertools.product(range(comers + 1), repeat=6):
                row = walk(comers, bound, comings)
                if row:
                    self.assertEqual(row[0], (0, 1))
                found.update(zip(row, row[1:]))
            told = {(spot, other) for spot in spots(comers, bound) for other in nexts(comers, bound, spot)}
            self.assertLessEqual(found, told)
            if (comers, bound) == (2, 2):
                self.assertEqual(found, told)


class ComingsForTest(unittest.TestCase):
    def check(self, comers, bound, row):
        comings, letter = comings_for(comers, bound, row)
        start = row[0][0]
        self.assertIs(type(comings), tuple)
        self.assertEqual(comings[:start], (2,) * start)
        self.assertEqual(letter, 2 * start)
        self.assertEqual(len(comes(comers, comings)), letter + len(row))
        self.assertNotIn(None, waits(comers, bound, comings))
        self.assertEqual(walk(comers, bound, comings)[letter:], list(row))
        self.assertGreater(comings[-1], 0)

    def test_plain_walks(self):
        self.assertEqual(comings_for(2, 3, ((2, 1), (0, 1), (1, 2))), ((2, 2, 1, 0, 0, 2), 4))
        self.assertEqual(comings_for(2, 1, ((0, 1),)), ((1,), 0))
        self.assertEqual(comings_for(4, 3, [(0, 1), (1, 2), (2, 3), (3, 4), (3, 1)]), ((4, 1), 0))
        self.assertEqual(comings_for(2, 60, ((60, 1),)), ((2,) * 60 + (1,), 120))
        self.assertEqual(comings_for(2, 60, ((60, 1), (0, 1))), ((2,) * 60 + (1,) + (0,) * 60 + (1,), 120))

    def test_many_walks_are_walked(self):
        chance = random.Random(3)
        for comers in (2, 3, 4):
            for bound in (1, 2, 5, 60):
                for many in (1, 2, 7, 59, 60, 60, 60):
                    row = random_walk(chance, comers, bound, many)
                    self.check(comers, bound, row)
                    self.check(comers, bound, tuple(row))

    def test_letters_come_as_soon_as_they_can(self):
        for row in ([(0, 1), (0, 1)], [(1, 1), (0, 1)], [(1, 1), (1, 1), (2, 2)], [(1, 1), (2, 2), (1, 1)]):
            told, letter = comings_for(2, 2, row)
            fitting = []
            for ticks in range(len(told) + 1):
                for behind in itertools.product(range(3), repeat=ticks):
                    comings = (2,) * row[0][0] + behind
                    if walk(2, 2, comings)[letter:] == row and len(comes(2, comings)) == letter + len(row):
                        fitting.append(comings)
            # Of all comings that fit, these let each letter come at the least tick.
            self.assertEqual(comes(2, told), min(comes(2, comings) for comings in fitting))

    def test_the_walk_of_a_day_comes_again(self):
        for comings in itertools.product(range(4), repeat=4):
            row = walk(3, 4, comings)
            if row and None not in waits(3, 4, comings):
                again, letter = comings_for(3, 4, row)
                self.assertEqual(letter, 0)
                self.assertEqual(walk(3, 4, again), row)

    def test_what_is_no_walk(self):
        wrong = odd_things() + [
            [], (), 0, (0, 1), [0, 1], ((0, 2),), ((1, 2),), [[0, 1]], ((0, 1), [0, 1]), ((0, 1), (1, 1)),
            ((0, 1), (2, 2)), ((0, 1), (1, 2), (2, 3)), ((0, 1), (0, 1), (3, 1)), ((3, 1),), ((False, 1),), ((0, True),),
            ((0, 1), (False, True)), ((0, 1), (1, 2), (1, True)), ((0, 1), None), ((0, 1), ((0, 1), (0, 1))), "01", {(0, 1): 1},
            [None, (0, 1)], [[(0, 1)]], ((0, 1, 1),), ((0,),), ((2, 1), (2, 2)),
        ]
        for thing in wrong:
            with self.subTest(thing=repr(thing)[:40]):
                self.assertRaises(NoWalk, comings_for, 2, 2, thing)

    def test_more_than_sixty_spots_are_none(self):
        self.check(2, 1, [(0, 1)] * 60)
        self.check(2, 1, ((0, 1), (1, 2)) * 30)
        self.assertRaises(NoWalk, comings_for, 2, 1, [(0, 1)] * 61)
        self.assertRaises(NoWalk, comings_for, 2, 1, ((0, 1), (1, 2)) * 30 + ((0, 1),))

    def test_the_walk_stays_unchanged(self):
        row = [(1, 1), (2, 2), (0, 1)]
        comings_for(2, 2, row)
        self.assertEqual(row, [(1, 1), (2, 2), (0, 1)])


if __name__ == "__main__":
    unittest.main()
