import itertools
import random
import unittest

from common import (
    LONGEST, T, U, V, assert_errors, meets_of, led_day, odd_numbers, odd_things, odd_tuples, random_table)
from loopstore.clashes import safe
from loopstore.doubling import doubling_table
from loopstore.errors import BadTree, NoDoorings
from loopstore.lines import lines, outs, waits
from loopstore.tables import Table
from loopstore.trees import (
    Tree, is_tree_meeting, tree_comings, tree_lines, tree_lost, tree_meeting, tree_outs)

SMALL = Table((1,), ((0,),))
ONE = Tree(((T, (None, None)),))
TWO = Tree(((SMALL, (None, None)), (SMALL, (None, 0, None))))
EIGHT = Tree((
    (T, (None, None)), (SMALL, (None, None, None)), (V, (0, None)), (T, (1, 2, None, None)), (SMALL, (None, None)),
    (T, (None, 4)), (SMALL, (3, 5)), (V, (None, 6, None))))
CHAIN = Tree(tuple((SMALL, (None, None) if at == 0 else (at - 1, None)) for at in range(8)))


def led_tree(tree, doorings):
    """The lists of outs, of lost letters, of the comings and of the lines, by letters that are moved one by one."""
    doors = {}
    for node, (_, feeders) in enumerate(tree.nodes):
        for place, feeder in enumerate(feeders):
            if feeder is None:
                doors[node, place] = len(doors)
    queues = {node: [] for node in range(len(tree.nodes))}
    gone, lost, come, behind = [], [], {node: [] for node in queues}, {node: [] for node in queues}
    tick = 0
    while tick < len(doorings) or any(queues.values()):
        going = {}
        for node, (table, feeders) in enumerate(tree.nodes):
            number = 0
            for place, feeder in enumerate(feeders):
                letter = going.get(feeder) if feeder is not None else None
                if feeder is None and tick < len(doorings) and doorings[tick][doors[node, place]] == 1:
                    letter = (tick, doors[node, place])
                if letter is not None:
                    number += 1
                    if len(queues[node]) > table.bound:
                        lost.append((tick, *letter, node))
                    else:
                        queues[node].append(letter)
            come[node].append(number)
            if queues[node]:
                going[node] = queues[node].pop(0)
            behind[node].append(len(queues[node]))
        root = len(tree.nodes) - 1
        if root in going:
            gone.append((tick, *going[root]))
        tick += 1
    comings = []
    for node in queues:
        last = max([at + 1 for at, number in enumerate(come[node]) if number], default=0)
        comings.append(tuple(come[node][:last]))
    return sorted(gone), sorted(lost), comings, [behind[node][:len(doorings)] for node in queues]


def random_tree(chance, many):
    """A tree of so many nodes, each fed by some that feed no other one yet."""
    nodes = []
    free = []
    for at in range(many):
        if at == many - 1:
            fed = free
        else:
            fed = chance.sample(free, chance.randint(max(0, len(free) - 3), min(len(free), 3)))
        feeders = fed + [None] * max(2 - len(fed), chance.randint(0, 4 - len(fed)))
        chance.shuffle(feeders)
        free = [node for node in free if node not in fed] + [at]
        nodes.append((chance.choice([T, U, V, SMALL, random_table(chance, (1, 2), 2)]), tuple(feeders)))
    return Tree(tuple(nodes))


def random_doorings(chance, tree, ticks):
    share = chance.choice([0.2, 0.5, 0.8, 1])
    return tuple(tuple(int(chance.random() < share) for _ in range(tree.doors)) for _ in range(ticks))


def told(tree, doorings):
    return (tree_outs(tree, doorings), tree_lost(tree, doorings), tree_comings(tree, doorings),
            tree_lines(tree, doorings))


class TreeTest(unittest.TestCase):
    def test_plain_trees(self):
        self.assertEqual((ONE.nodes, ONE.doors), (((T, (None, None)),), 2))
        self.assertEqual((TWO.doors, EIGHT.doors, CHAIN.doors), (4, 13, 9))
        self.assertEqual(len(EIGHT.nodes), 8)
        self.assertEqual(Tree(((T, (None,) * 4),)).doors, 4)

    def test_equality(self):
        self.assertEqual(ONE, Tree(((Table((1, 2), ((0,), (1,), (0, 1))), (None, None)),)))
        self.assertIs(ONE == Tree(((T, (None, None)),)), True)
        self.assertIs(ONE != Tree(((T, (None, None)),)), False)
        for other in (Tree(((U, (None, None)),)), Tree(((T, (None, None, None)),)), TWO, EIGHT, CHAIN, T, ONE.nodes):
            self.assertIs(ONE == other, False)
            self.assertIs(other == ONE, False)
        for thing in odd_things():
            self.assertIs(ONE == thing, False)
        self.assertNotEqual(TWO, Tree(((SMALL, (None, None)), (SMALL, (0, None, None)))))

    def assert_bad(self, at, nodes):
        with self.assertRaises(BadTree) as caught:
            Tree(nodes)
        self.assertEqual(caught.exception.at, at)
        self.assertIs(type(caught.exception), BadTree)

    def test_no_tuple_of_one_to_eight(self):
        node = (T, (None, None))
        for thing in [thing for thing in odd_things() if not isinstance(thing, tuple)] + [
                [], [node], (), 0, (None,) * 9, (node,) * 9, CHAIN.nodes + ((SMALL, (7, None)),), (node,) * 10000]:
            with self.subTest(thing=repr(thing)[:40]):
                self.assert_bad(-1, thing)

    def test_wrong_nodes(self):
        doors = (None, None)
        wrong = odd_tuples() + [
            [T, doors], (T,), (T, doors, None), (doors, T), (T, list(doors)), (None, doors), (T.rows, doors), (T, None),
            (T, ()), (T, (None,)), (T, (None,) * 5), (T, (None, False)), (T, (False, None)), (T, (None, "0")),
            (T, (None, -1)), (T, (None, (0,))), (T, (None, T)), (Table, doors), (T, {None: None}), (T, (None, 10 ** 59)),
            (ONE, doors), ((T, doors), doors)]
        for thing in wrong:
            with self.subTest(thing=repr(thing)[:40]):
                self.assert_bad(0, (thing,))
                self.assert_bad(0, (thing, thing))
                self.assert_bad(1, ((T, doors), thing))
                self.assert_bad(1, ((T, doors), thing, None))
                # It goes ahead of the -1 for the nodes that feed none.
                self.assert_bad(2, ((T, doors), (T, doors), thing))

    def test_feeders_are_nodes_ahead(self):
        self.assert_bad(0, ((T, (None, 0)),))
        self.assert_bad(1, ((T, (None, None)), (T, (1, 0))))
        self.assert_bad(0, ((T, (None, 1)), (T, (None, 0))))
        self.assert_bad(1, ((T, (None, None)), (T, (True, 0)), (T, (0, 1))))
        self.assert_bad(2, ((T, (None, None)), (T, (None, None)), (T, (0, 1, 2))))
        self.assert_bad(1, ((T, (None, None)), (T, (False, None))))

    def test_each_node_but_the_root_feeds_just_one(self):
        door = (T, (None, None))
        self.assert_bad(-1, (door, door))
        self.assert_bad(-1, (door, (T, (0, 0))))
        self.assert_bad(-1, (door, (T, (0, None)), (T, (0, None))))
        self.assert_bad(-1, (door, (T, (0, None)), (T, (0, 1))))
        self.assert_bad(-1, (door, door, (T, (1, None))))
        self.assert_bad(-1, (door, door, (T, (1, 0, 1))))
        self.assert_bad(-1, (door, door, (T, (1, 0, None)), door))
        Tree((door, door, (T, (1, 0, None)), (T, (None, 2))))


class FlowTest(unittest.TestCase):
    def test_one_node(self):
        doorings = ((1, 1), (1, 1), (0, 0), (0, 1))
        self.assertEqual(tree_outs(ONE, doorings), [(0, 0, 0), (1, 0, 1), (2, 1, 0), (3, 1, 1), (4, 3, 1)])
        self.assertEqual(tree_lost(ONE, doorings), [])
        self.assertEqual(tree_comings(ONE, doorings), [(2, 2, 0, 1)])
        self.assertEqual(tree_lines(ONE, doorings), [[1, 2, 1, 1]])

    def test_a_letter_goes_through_several_nodes_at_one_tick(self):
        self.assertEqual(CHAIN.doors, 9)
        alone = ((1,) + (0,) * 8,)
        self.assertEqual(tree_outs(CHAIN, alone), [(0, 0, 0)])
        self.assertEqual(tree_comings(CHAIN, alone), [(1,)] * 8)
        self.assertEqual(tree_lines(CHAIN, alone), [[0]] * 8)
        # With one at the root's door it waits there behind the letter that the node ahead feeds.
        both = ((1,) + (0,) * 7 + (1,),)
        self.assertEqual(tree_outs(CHAIN, both), [(0, 0, 0), (1, 0, 8)])
        self.assertEqual(tree_lines(CHAIN, both), [[0]] * 7 + [[1]])

    def test_the_order_of_the_feeders(self):
        doorings = ((1, 0, 1, 1),)
        self.assertEqual(tree_outs(TWO, doorings), [(0, 0, 2), (1, 0, 0)])
        self.assertEqual(tree_lost(TWO, doorings), [(0, 0, 3, 1)])
        other = Tree(((SMALL, (None, None)), (SMALL, (0, None, None))))
        self.assertEqual(tree_outs(other, doorings), [(0, 0, 0), (1, 0, 2)])
        self.assertEqual(tree_lost(other, doorings), [(0, 0, 3, 1)])

    def test_letters_that_are_lost(self):
        doorings = ((1, 1, 1, 1),) * 3
        self.assertEqual(led_tree(TWO, doorings), told(TWO, doorings))
        self.assertEqual(tree_lost(TWO, doorings), [(0, 0, 3, 1), (1, 0, 1, 1), (1, 1, 1, 0), (1, 1, 3, 1), (2, 1, 0, 1),
                                                    (2, 2, 1, 0), (2, 2, 3, 1)])

    def test_letters_are_lost_behind_the_doorings_too(self):
        # Two full nodes ahead go on feeding the root, which lets out one at a tick.
        root = Tree(((doubling_table((1, 2, 4)), (None, None)), (doubling_table((1, 2, 4)), (None, None)), (T, (0, 1))))
        doorings = ((1, 1, 1, 1),) * 7
        gone, lost, comings, behind = led_tree(root, doorings)
        self.assertGreater(max(tick for tick, *_ in lost), 8)
        self.assertEqual(told(root, doorings), (gone, lost, comings, behind))
        self.assertGreater(len(comings[2]), 7)
        self.assertEqual([len(row) for row in behind], [7, 7, 7])

    def test_comings_end_with_the_last_letter(self):
        self.assertEqual(tree_comings(TWO, ()), [(), ()])
        self.assertEqual(tree_comings(TWO, ((0,) * 4,) * 3), [(), ()])
        self.assertEqual(tree_comings(TWO, ((0,) * 4, (0, 0, 1, 0), (0,) * 4)), [(), (0, 1)])
        self.assertEqual(tree_comings(TWO, ((1, 1, 0, 0), (0,) * 4, (0,) * 4)), [(2,), (1, 1)])
        self.assertEqual([type(row) for row in tree_comings(TWO, ())], [tuple, tuple])

    def test_no_doorings(self):
        for tree in (ONE, TWO, EIGHT):
            many = len(tree.nodes)
            self.assertEqual(told(tree, ()), ([], [], [()] * many, [[] for _ in range(many)]))

    def test_chance(self):
        chance = random.Random(16)
        lost = 0
        for _ in range(150):
            tree = random_tree(chance, chance.randint(1, 8))
            doorings = random_doorings(chance, tree, chance.choice([1, 3, 10, 25]))
            self.assertEqual(told(tree, doorings), led_tree(tree, doorings))
            lost += tree_lost(tree, doorings) != []
        self.assertGreater(lost, 20)
        for tree in (EIGHT, CHAIN, Tree(((LONGEST, (None,) * 4), (LONGEST, (None, 0, None))))):
            doorings = random_doorings(chance, tree, 200)
            self.assertEqual(told(tree, doorings), led_tree(tree, doorings))

    def test_one_node_is_a_line(self):
        chance = random.Random(17)
        for feeders in (2, 3, 4):
            tree = Tree(((V, (None,) * feeders),))
            for _ in range(30):
                doorings = random_doorings(chance, tree, 20)
                comings = tuple(sum(row) for row in doorings)
                letters = [(tick, door) for tick, row in enumerate(doorings) for door in range(feeders) if row[door]]
                self.assertEqual(tree_lines(tree, doorings), [lines(feeders, 5, comings)])
                gone = [(tick, *letters[letter]) for tick, letter in outs(feeders, 5, comings)]
                self.assertEqual(tree_outs(tree, doorings), gone)
                away = [(*letters[at], wait) for at, wait in enumerate(waits(feeders, 5, comings)) if wait is None]
                self.assertEqual(tree_lost(tree, doorings), [(tick, tick, door, 0) for tick, door, _ in away])

    def test_each_list_is_new(self):
        doorings = ((1, 1, 1, 1),) * 3
        for made in (tree_outs, tree_lost, tree_comings, tree_lines):
            self.assertIs(type(made(TWO, doorings)), list)
            made(TWO, doorings).clear()
        tree_lines(TWO, doorings)[0].clear()
        self.assertEqual(told(TWO, doorings), led_tree(TWO, doorings))

    def test_wrong_doorings(self):
        row = (0, 1)
        wrong = [thing for thing in odd_tuples() if thing != ()] + [
            [row], (row,) * 201, (list(row),), ((0,),), ((0, 1, 0),), ((0, 2),), ((0, -1),), ((0, True),), ((False, 1),),
            (row, (0, None)), (row, ()), ((),), {row: row}, ((0, "1"),), (b"\x00\x01",), ((0, 10 ** 59),)]
        for function in (tree_outs, tree_lost, tree_comings, tree_lines):
            assert_errors(self, function, (ONE, (row,) * 200), [(1, NoDoorings, wrong)])
            self.assertRaises(NoDoorings, function, TWO, (row,))


class MeetingTest(unittest.TestCase):
    def assert_meeting(self, tree):
        expected = any(not safe(table, len(feeders)) for table, feeders in tree.nodes)
        found = tree_meeting(tree)
        self.assertIs(found is not None, expected)
        if expected:
            self.assertIs(type(found), tuple)
            doorings, node = found
            self.assertLessEqual(len(doorings), 200)
            comings = led_tree(tree, doorings)[2][node]
            self.assertNotEqual(meets_of(led_day(tree.nodes[node][0], comings)), [])
            self.assertIs(is_tree_meeting(tree, found), True)
        return expected

    def test_the_eighth_fact(self):
        chance = random.Random(18)
        tables = [T, U, V, SMALL, doubling_table((1, 2, 4)), LONGEST]
        seen = {True: 0, False: 0}
        for table in tables:
            for feeders in (2, 3, 4):
                seen[self.assert_meeting(Tree(((table, (None,) * feeders),)))] += 1
        for _ in range(100):
            seen[self.assert_meeting(random_tree(chance, chance.randint(1, 8)))] += 1
        self.assertGreater(min(seen.values()), 8)
        self.assertIs(self.assert_meeting(CHAIN), False)
        # Only the root is not safe, and not because of its door alone.
        self.assertIs(self.assert_meeting(Tree(CHAIN.nodes[:7] + ((U, (6, None)),))), True)
        self.assertIs(self.assert_meeting(Tree(((T, (None, None)), (T, (None, None)), (T, (0, None, 1))))), True)
        self.assertIs(self.assert_meeting(Tree(((T, (None, None)), (T, (None, 0))))), False)

    def test_safe_trees_never_meet(self):
        chance = random.Random(19)
        tree = Tree(((T, (None, None)), (V, (0, None)), (SMALL, (None, 1, None))))
        for _ in range(100):
            doorings = random_doorings(chance, tree, chance.choice([3, 20, 60]))
            for node in range(3):
                self.assertIs(is_tree_meeting(tree, (doorings, node)), False)

    def test_all_short_doorings(self):
        tree = Tree(((U, (None, None)), (T, (None, 0, None))))
        kept = {True: 0, False: 0}
        for doorings in itertools.product(itertools.product((0, 1), repeat=4), repeat=3):
            comings = led_tree(tree, doorings)[2]
            for node in (0, 1):
                meets = meets_of(led_day(tree.nodes[node][0], comings[node])) != []
                self.assertIs(is_tree_meeting(tree, (doorings, node)), meets)
                kept[meets] += 1
        self.assertGreater(min(kept.values()), 100)

    def test_letters_may_meet_behind_the_doorings(self):
        # The letters 2 and 3 come together and want the loop 3 one tick later.
        late = Table((1, 1, 1, 1), ((0,), (1, 3), (2, 3, 0)))
        tree = Tree(((late, (None,) * 4),))
        self.assertIs(is_tree_meeting(tree, (((1, 1, 1, 1),), 0)), True)
        self.assertIs(is_tree_meeting(tree, (((1, 1, 1, 0),), 0)), False)

    def test_comings_of_more_than_400_ticks(self):
        # The nodes fill one behind another, so that letters come to the root long behind the doorings.
        whole = doubling_table((1, 2, 4, 8, 16, 29))
        tree = Tree(tuple((whole, (None, None) if at == 0 else (None, at - 1)) for at in range(8)))
        doorings = ((1,) * 9,) * 200
        self.assertEqual(told(tree, doorings), led_tree(tree, doorings))
        self.assertGreater(len(tree_comings(tree, doorings)[7]), 400)
        self.assertIs(is_tree_meeting(tree, (doorings, 7)), False)

    def test_whatever_is_judged(self):
        doorings = ((1, 1), (1, 1), (1, 1))
        tree = Tree(((U, (None, None)),))
        self.assertIs(is_tree_meeting(tree, (doorings, 0)), True)
        wrong = odd_tuples() + odd_numbers() + [
            [doorings, 0], (doorings,), (doorings, 0, 0), (0, doorings), (list(doorings), 0), (doorings, False),
            (doorings, -1), (doorings, 1), (doorings, None), (doorings, "0"), (doorings[:2], 0), ((), 0),
            (doorings + ((1, 2),), 0), (doorings + ((1, True),), 0), (doorings + ((1,),), 0), (doorings * 67, 0),
            ((2, 2, 2), 0), (doorings, (0,)), {doorings: 0}, (doorings, 10 ** 59)]
        for thing in wrong:
            with self.subTest(thing=repr(thing)[:40]):
                before = repr(thing)
                self.assertIs(is_tree_meeting(tree, thing), False)
                self.assertEqual(repr(thing), before)
        self.assertIs(is_tree_meeting(tree, (doorings + ((0, 0),) * 197, 0)), True)


if __name__ == "__main__":
    unittest.main()
