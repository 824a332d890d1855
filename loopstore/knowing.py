"""Days as somebody leads them who knows all comings ahead.

The letters of a busy time are laid tick by tick, by a search that turns back where a state has no hope. A span is
a pair (back, out): the tick at which a letter is at the switch next, and the one at which it goes out. Numbers are a
dict from lengths to how many loops have them.
"""

from loopstore.checks import check_bound, check_comers, check_comings, check_loops
from loopstore.days import waiting_spans
from loopstore.errors import TooMany

MOST_LETTERS = 24
# A search begins anew in another order after so many states, and after more of them behind so many orders.
FIRST_PATIENCE = 50
ORDERS = 8


def add_ways(ways, numbers, back, out):
    """Adds the loops between these ticks: ways[tick][later] tells how many of them lead there."""
    for tick in range(back, out):
        onward = ways.setdefault(tick, {})
        for length in numbers:
            if tick + length <= out and tick + length not in onward:
                onward[tick + length] = numbers[length]


def find_path(ways, start, end):
    """A dict from each tick of a path along free ways to the one ahead of it, or None."""
    came_from = {start: start}
    todo = [start]
    while todo and end not in came_from:
        tick = todo.pop()
        onward = ways.get(tick, {})
        for later in onward:
            if onward[later] > 0 and later not in came_from:
                came_from[later] = tick
                todo.append(later)
    if end not in came_from:
        return None
    return came_from


def take_path(ways, came_from, start, end):
    """Takes each way of a path once; a taken way may be gone backwards, which frees it again."""
    while end != start:
        tick = came_from[end]
        ways[tick][end] -= 1
        backward = ways.setdefault(end, {})
        backward[tick] = backward.get(tick, 0) + 1
        end = tick


def can_flow(numbers, spans):
    """Whether there are loops enough for each beginning of the list of spans, if letters might change places.

    They may not, so this is needed, but not enough.
    """
    ways = {}
    for back, out in spans:
        add_ways(ways, numbers, back, out)
        came_from = find_path(ways, back, out)
        if came_from is None:
            return False
        take_path(ways, came_from, back, out)
    return True


def seat(spans, letter, slots, taken, tried):
    """Finds a slot for a letter, if need be by moving others; taken is a dict from slots to letters."""
    back, out = spans[letter]
    for at, (entered, left) in enumerate(slots):
        if at not in tried and back <= entered and left <= out:
            tried[at] = True
            if at not in taken or seat(spans, taken[at], slots, taken, tried):
                taken[at] = letter
                return True
    return False


def can_hold(numbers, spans, tick):
    """Whether all letters that are in the line behind the tick can be inside loops then."""
    staying = [(back, out) for back, out in spans if back <= tick < out]
    slots = []
    for length in numbers:
        for entered in range(tick - length + 1, tick + 1):
            slots.extend([(entered, entered + length)] * numbers[length])
    taken = {}
    for letter in range(len(staying)):
        if not seat(staying, letter, slots, taken, {}):
            return False
    return True


def has_hope(numbers, spans):
    """False only if these spans, none of them empty, cannot all be gone through by loops."""
    if not can_flow(numbers, spans) or not can_flow(numbers, spans[::-1]):
        return False
    first = min([back for back, out in spans])
    last = max([out for back, out in spans])
    for tick in range(first, last):
        if not can_hold(numbers, spans, tick):
            return False
    return True


def in_order(numbers, room, order):
    """The lengths of free loops that fit into the room, in one of many orders."""
    fitting = [length for length in numbers if numbers[length] > 0 and length <= room]
    if order == 0:
        # By trial the best one: a letter that comes home at once needs no further loop, and half the way is next best.
        return sorted(fitting, key=lambda length: (length != room, abs(2 * length - room)))
    return sorted(fitting, key=lambda length: (length + 7) * (room + 3) * order % 127)


def spread(rooms, numbers, order):
    """Goes through all tuples with a length for each room, none more often than there are loops of it."""
    if not rooms:
        yield ()
        return
    others = rooms[1:]
    for length in in_order(numbers, rooms[0], order):
        rest = {**numbers, length: numbers[length] - 1}
        for more in spread(others, rest, order):
            yield (length, *more)


class Search:
    """A search for the lengths of the loops into which the letters of some spans are laid."""

    def __init__(self, loops, spans):
        longest = max([out - back for back, out in spans])
        self.numbers = {length: loops.count(length) for length in loops if length <= longest}
        self.spans = spans
        self.hopeless = {}
        self.order = 0
        self.patience = 0

    def found(self):
        """The list of all triples (tick, number of the span, length), by ticks, or None."""
        backs = tuple([back for back, out in self.spans])
        while True:
            self.patience = FIRST_PATIENCE * (1 + self.order // ORDERS)
            laid = self.lay_from(backs)
            # Without any patience left the search was broken off, so that it has told nothing.
            if laid is not None or self.patience > 0:
                return laid
            self.order += 1

    def lay_from(self, backs):
        """As found, from a state on: a tuple of when each letter is at the switch next."""
        spans = [(back, span[1]) for back, span in zip(backs, self.spans) if back < span[1]]
        if not spans:
            return []
        if backs in self.hopeless or self.patience == 0:
            return None
        self.patience -= 1
        laid = None
        if has_hope(self.numbers, spans):
            laid = self.lay_at(min([back for back, out in spans]), backs)
        if laid is None and self.patience > 0:
            self.hopeless[backs] = True
        return laid

    def lay_at(self, tick, backs):
        """As lay_from, of a state in which this is the next tick with letters at the switch."""
        here = [at for at, span in enumerate(self.spans) if backs[at] == tick and tick < span[1]]
        rooms = [self.spans[at][1] - tick for at in here]
        for lengths in spread(rooms, self.numbers, self.order):
            later = list(backs)
            for at, length in zip(here, lengths):
                later[at] = tick + length
            laid = self.lay_from(tuple(later))
            if laid is not None:
                return [(tick, at, length) for at, length in zip(here, lengths)] + laid
            if self.patience == 0:
                return None
        return None


def busy_times(waiting):
    """The triples of waiting_spans in groups: the letters of a group are all out when the next group comes."""
    groups = []
    end = -1
    for letter, tick, out in waiting:
        if tick >= end:
            groups.append([])
        groups[-1].append((letter, tick, out))
        end = out
    return groups


def with_loops(loops, laid):
    """The triples (tick, letter, length) as layings: with a loop of this length, no loop twice at a tick."""
    layings = []
    taken = {}
    for tick, letter, length in laid:
        free = [loop for loop in range(len(loops)) if loops[loop] == length and (tick, loop) not in taken]
        taken[(tick, free[0])] = True
        layings.append((tick, letter, free[0]))
    return layings


def ahead(loops, comers, bound, comings):
    """A day of these loops, or None if there is none."""
    check_loops(loops)
    check_comers(comers)
    check_bound(bound)
    check_comings(comers, comings)
    if sum(comings) > MOST_LETTERS:
        raise TooMany(MOST_LETTERS)
    layings = []
    for group in busy_times(waiting_spans(bound, comings)):
        laid = Search(loops, [(tick, out) for letter, tick, out in group]).found()
        if laid is None:
            return None
        layings.extend(with_loops(loops, [(tick, group[at][0], length) for tick, at, length in laid]))
    return tuple(sorted(layings))
