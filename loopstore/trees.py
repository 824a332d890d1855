"""Trees: stores one behind another, so that who goes out of one comes to the next at the very same tick."""

from loopstore.checks import are_numbers, is_number
from loopstore.days import first_meet, table_layings
from loopstore.errors import BadTree, NoDoorings
from loopstore.meetings import meeting
from loopstore.tables import Table

MOST_NODES = 8
MOST_FEEDERS = 4
MOST_OPENED = 200


def is_node(at, thing):
    """Whether a thing is a pair of a table and feeders for the node of this number."""
    if not isinstance(thing, tuple) or len(thing) != 2:
        return False
    table, feeders = thing
    if not isinstance(table, Table) or not isinstance(feeders, tuple) or not 2 <= len(feeders) <= MOST_FEEDERS:
        return False
    return all([feeder is None or is_number(feeder, 0, at - 1) for feeder in feeders])


def check_nodes(nodes):
    if not isinstance(nodes, tuple) or not 1 <= len(nodes) <= MOST_NODES:
        raise BadTree(-1)
    for at, node in enumerate(nodes):
        if not is_node(at, node):
            raise BadTree(at)
    feeding = []
    for _, feeders in nodes:
        feeding.extend([feeder for feeder in feeders if feeder is not None])
    # No node can be fed by the root, as none stands behind it.
    if sorted(feeding) != list(range(len(nodes) - 1)):
        raise BadTree(-1)


class Tree:
    """Nodes, each a table with its feeders: doors, or nodes ahead of it."""

    def __init__(self, nodes):
        check_nodes(nodes)
        self.nodes = nodes
        self.doors = sum([feeders.count(None) for _, feeders in nodes])

    def __eq__(self, other):
        return isinstance(other, Tree) and self.nodes == other.nodes


def is_doorings(tree, thing):
    if not isinstance(thing, tuple) or len(thing) > MOST_OPENED:
        return False
    return all([isinstance(row, tuple) and len(row) == tree.doors and are_numbers(row, 0, 1) for row in thing])


class Flow:
    """What happens in a tree by doorings, until all lines are empty; a letter is a pair (tick, door)."""

    def __init__(self, tree, doorings):
        if not is_doorings(tree, doorings):
            raise NoDoorings()
        self.tree = tree
        self.queues = [[] for _ in tree.nodes]
        # For each node and tick the number of letters that come, and of those in the line behind the tick.
        self.comings = [[] for _ in tree.nodes]
        self.standing = [[] for _ in tree.nodes]
        self.outs = []
        self.lost = []
        tick = 0
        while tick < len(doorings) or any(self.queues):
            self.lead(tick, doorings[tick] if tick < len(doorings) else (0,) * tree.doors)
            tick += 1

    def lead(self, tick, opened):
        """Does a tick at which letters come at the opened doors."""
        door = 0
        going = []
        for node, (_, feeders) in enumerate(self.tree.nodes):
            come = []
            for feeder in feeders:
                if feeder is not None:
                    come.extend(going[feeder])
                else:
                    come.extend([(tick, door)] * opened[door])
                    door += 1
            going.append(self.lead_node(tick, node, come))
        self.outs.extend([(tick, came, by) for came, by in going[-1]])

    def lead_node(self, tick, node, come):
        """Does a tick at one node, to which these letters come; a list of the one that goes out, or of none."""
        queue = self.queues[node]
        for letter in come:
            if len(queue) <= self.tree.nodes[node][0].bound:
                queue.append(letter)
            else:
                self.lost.append((tick, letter[0], letter[1], node))
        going = queue[:1]
        self.queues[node] = queue[1:]
        self.comings[node].append(len(come))
        self.standing[node].append(len(self.queues[node]))
        return going


def without_last_noughts(numbers):
    many = len(numbers)
    while many > 0 and numbers[many - 1] == 0:
        many -= 1
    return tuple(numbers[:many])


def tree_outs(tree, doorings):
    """All triples (tick, came, door): at the tick the letter that came then at the door leaves the tree, ascending."""
    return Flow(tree, doorings).outs


def tree_lost(tree, doorings):
    """All (tick, came, door, node): at the tick the letter that came then at the door is lost there, ascending."""
    return sorted(Flow(tree, doorings).lost)


def tree_comings(tree, doorings):
    """For each node its comings, up to the last tick at which some letter comes to it."""
    return [without_last_noughts(numbers) for numbers in Flow(tree, doorings).comings]


def tree_lines(tree, doorings):
    """For each node the numbers of letters in its line behind each tick of the doorings."""
    return [numbers[:len(doorings)] for numbers in Flow(tree, doorings).standing]


def ways_in(tree):
    """For each node the list of doors, one for each feeder, from which a letter that comes alone gets there at once."""
    found = []
    door = 0
    for _, feeders in tree.nodes:
        doors = []
        for feeder in feeders:
            if feeder is not None:
                doors.append(found[feeder][0])
            else:
                doors.append(door)
                door += 1
        found.append(doors)
    return found


def doorings_for(tree, node, comings):
    """Doorings by which a node has just these comings."""
    doors = ways_in(tree)[node]
    rows = []
    for number in comings:
        rows.append(tuple([1 if door in doors[:number] else 0 for door in range(tree.doors)]))
    return tuple(rows)


def tree_meeting(tree):
    """Doorings and a node at which two letters meet by them, or None."""
    for node, (table, feeders) in enumerate(tree.nodes):
        found = meeting(table, len(feeders))
        if found is not None:
            return doorings_for(tree, node, found[0]), node
    return None


def is_tree_meeting(tree, thing):
    """Whether a thing is a meeting of the tree."""
    if not isinstance(thing, tuple) or len(thing) != 2:
        return False
    doorings, node = thing
    if not is_doorings(tree, doorings) or not is_number(node, 0, len(tree.nodes) - 1):
        return False
    comings = tree_comings(tree, doorings)[node]
    return first_meet(table_layings(tree.nodes[node][0], comings)) is not None
