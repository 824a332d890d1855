"""Games: which stands can be kept against all comings, and which are lost against some."""

from loopstore.checks import MOST_BOUND, check_bound, check_comers, check_loops, is_integer, is_number
from loopstore.clashes import safe
from loopstore.errors import TooMany
from loopstore.sizes import reach
from loopstore.stands import at_switch, is_laying_out, is_stand, led_to
from loopstore.tables import wait_entries

MOST_STANDS = 2000


def check_game(loops, comers, bound):
    check_loops(loops)
    check_comers(comers)
    check_bound(bound)


def check_stands(many):
    if many > MOST_STANDS:
        raise TooMany(MOST_STANDS)


def ways(loops, places):
    """Layings-out of these places, one for each stand to which some lead."""
    if len(places) > len(loops):
        return []
    found = [()]
    for place in places:
        longer = []
        for laid in found:
            taken = [loop for _, loop in laid]
            lengths = []
            for loop, length in enumerate(loops):
                # Loops of one length lead to one stand, so the first one that is free does for all.
                if loop not in taken and length <= place and length not in lengths:
                    lengths.append(length)
                    longer.append(laid + ((place, loop),))
        found = longer
    return found


class Game:
    """All stands that can be come to from (), numbered, and who loses.

    For each stand and each number of letters that come, leads has the ways and the numbers of the stands behind them.
    For each lost stand, lost has a number of letters that come by which it is lost, and in how many ticks at most.
    """

    def __init__(self, loops, comers, bound):
        self.stands = [()]
        self.leads = []
        self.lost = {}
        self.go_through(loops, comers, bound)
        self.judge()

    def go_through(self, loops, comers, bound):
        numbers = {(): 0}
        known = {}
        # The list of stands grows while it is gone through.
        while len(self.leads) < len(self.stands):
            stand = self.stands[len(self.leads)]
            self.leads.append([])
            for number in range(comers + 1):
                places = tuple(at_switch(bound, stand, number))
                if places not in known:
                    known[places] = ways(loops, places)
                ends = [led_to(loops, bound, stand, number, laying) for laying in known[places]]
                for end in ends:
                    if end not in numbers:
                        numbers[end] = len(self.stands)
                        self.stands.append(end)
                check_stands(len(self.stands))
                self.leads[-1].append((known[places], [numbers[end] for end in ends]))

    def judge(self):
        saved = [[len(ends) for _, ends in leads] for leads in self.leads]
        layer = []
        for at, counts in enumerate(saved):
            if 0 in counts:
                self.lost[at] = (counts.index(0), 0)
                layer.append(at)
        ahead = self.ways_to()
        depth = 0
        while layer:
            depth += 1
            further = []
            for end in layer:
                for at, number in ahead[end]:
                    saved[at][number] -= 1
                    if saved[at][number] == 0 and at not in self.lost:
                        self.lost[at] = (number, depth)
                        further.append(at)
            layer = further

    def ways_to(self):
        """For each stand the pairs of a stand's number and a number of letters by which it can be led here."""
        found = [[] for _ in self.stands]
        for at, leads in enumerate(self.leads):
            for number, (_, ends) in enumerate(leads):
                for end in ends:
                    found[end].append((at, number))
        return found

    def kept_layings(self, at):
        """For each number of letters that come a way from a stand that is not lost to another one."""
        found = []
        for layings, ends in self.leads[at]:
            kept = [laying for laying, end in zip(layings, ends) if end not in self.lost]
            found.append(kept[0])
        return tuple(found)


def closed(loops, comers, bound):
    """A closed list, or None."""
    check_game(loops, comers, bound)
    game = Game(loops, comers, bound)
    if 0 in game.lost:
        return None
    return {stand: game.kept_layings(at) for at, stand in enumerate(game.stands) if at not in game.lost}


def lost(loops, comers, bound):
    """A lost list, or None."""
    check_game(loops, comers, bound)
    game = Game(loops, comers, bound)
    if 0 not in game.lost:
        return None
    return {stand: game.lost[at] for at, stand in enumerate(game.stands) if at in game.lost}


def are_stands(bound, thing):
    """Whether a thing is a dict from stands, () among them."""
    return isinstance(thing, dict) and () in thing and all([is_stand(bound, stand) for stand in thing])


def is_closed(loops, comers, bound, thing):
    """Whether a thing is a closed list."""
    check_game(loops, comers, bound)
    if not are_stands(bound, thing):
        return False
    for stand, layings in thing.items():
        if not isinstance(layings, tuple) or len(layings) != comers + 1:
            return False
        for number, laying in enumerate(layings):
            if not is_laying_out(loops, bound, stand, number, laying):
                return False
            if led_to(loops, bound, stand, number, laying) not in thing:
                return False
    return True


def is_number_and_depth(comers, thing):
    if not isinstance(thing, tuple) or len(thing) != 2:
        return False
    return is_number(thing[0], 0, comers) and is_integer(thing[1]) and thing[1] >= 0


def is_lost(loops, comers, bound, thing):
    """Whether a thing is a lost list."""
    check_game(loops, comers, bound)
    if not are_stands(bound, thing) or not all([is_number_and_depth(comers, pair) for pair in thing.values()]):
        return False
    for stand, (number, depth) in thing.items():
        for laying in ways(loops, at_switch(bound, stand, number)):
            end = led_to(loops, bound, stand, number, laying)
            if end not in thing or thing[end][1] >= depth:
                return False
    return True


def greatest_kept(loops, comers):
    """The greatest bound for which there is a closed list, 0 if there is none."""
    check_loops(loops)
    check_comers(comers)
    top = min(MOST_BOUND, reach(loops))
    for bound in range(1, top + 1):
        if closed(loops, comers, bound) is None:
            return bound - 1
    return top


def line_behind(bound, waits, number):
    """The waits of the letters in the line when so many have come."""
    return waits + tuple(range(len(waits), min(len(waits) + number, bound + 1)))


def stand_of(table, waits):
    """The stand of letters that have had these waits, by the table."""
    found = []
    for place, wait in enumerate(waits):
        age = wait - place
        comebacks = [gone for _, gone, left in wait_entries(table, wait)] + [wait]
        found.append(min([gone for gone in comebacks if gone >= age]) - age)
    return tuple(found)


def laying_of(table, line):
    """The laying-out by the table of letters that have had these waits, with those that have come now."""
    found = []
    for place, wait in enumerate(line):
        if place > 0:
            found.extend([(place, loop) for loop, gone, left in wait_entries(table, wait) if gone == wait - place])
    return tuple(found)


def closed_of(table, comers):
    """A closed list of stands that a safe table comes to; None for another table."""
    if not safe(table, comers):
        return None
    waits_seen = {(): True}
    waiting = [()]
    found = {}
    while waiting:
        waits = waiting.pop()
        lines = [line_behind(table.bound, waits, number) for number in range(comers + 1)]
        found[stand_of(table, waits)] = tuple([laying_of(table, line) for line in lines])
        for line in lines:
            if line[1:] not in waits_seen:
                waits_seen[line[1:]] = True
                waiting.append(line[1:])
        check_stands(len(waits_seen))
    return found
