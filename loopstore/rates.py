"""Rates: what steps of spots weigh in the long run, for all comings."""

from math import gcd

from loopstore.checks import are_integers, check_bound, check_comers, is_number
from loopstore.errors import NoFraction, NoWeights, OtherBounds
from loopstore.lines import nexts, spots
from loopstore.loads import check_loop
from loopstore.tables import Table, wait_row

MOST_WEIGHT = 99


def reduced(top, bottom):
    """The fraction of two integers, the second one from 1 on."""
    shared = gcd(top, bottom)
    return top // shared, bottom // shared


def is_fraction(thing):
    return are_integers(thing, 2) and thing[1] >= 1 and gcd(thing[0], thing[1]) == 1


def is_weights(bound, thing):
    if not isinstance(thing, tuple) or len(thing) != bound + 1:
        return False
    for row in thing:
        if not isinstance(row, tuple) or len(row) != bound + 1:
            return False
        if not all([is_number(weight, -MOST_WEIGHT, MOST_WEIGHT) for weight in row]):
            return False
    return True


def check_weights(comers, bound, weights):
    check_comers(comers)
    check_bound(bound)
    if not is_weights(bound, weights):
        raise NoWeights()


def check_fraction(thing):
    if not is_fraction(thing):
        raise NoFraction()


def less_each(weights, top, bottom):
    """The weights less a fraction, times its bottom."""
    return [[weight * bottom - top for weight in row] for row in weights]


class Heights:
    """For each spot the greatest weight of a walk to it, found by going up from spot to spot.

    If there is a round with a weight above 0, there are none, and round_above is such a round.
    """

    def __init__(self, comers, bound, weights):
        self.spots = spots(comers, bound)
        self.weights = weights
        numbers = {spot: number for number, spot in enumerate(self.spots)}
        self.nexts = []
        for spot in self.spots:
            self.nexts.append([(numbers[other], other[0]) for other in nexts(comers, bound, spot)])
        # Walks begin with the turn 1.
        self.heights = [0 if turn == 1 else None for _, turn in self.spots]
        self.ahead = [None for _ in self.spots]
        self.round_above = None
        while self.round_above is None and self.go_up():
            self.round_above = self.found_round()

    def go_up(self):
        """Goes over all steps once; tells whether some spot has come to be higher."""
        rose = False
        for number, (wait, _) in enumerate(self.spots):
            height = self.heights[number]
            if height is not None:
                row = self.weights[wait]
                for other, further in self.nexts[number]:
                    if self.heights[other] is None or self.heights[other] < height + row[further]:
                        self.heights[other] = height + row[further]
                        self.ahead[other] = number
                        rose = True
        return rose

    def found_round(self):
        """A round of spots of which each was raised last by the one ahead of it, or None."""
        seen_from = {}
        for start in range(len(self.spots)):
            number = start
            while number is not None and number not in seen_from:
                seen_from[number] = start
                number = self.ahead[number]
            if number is not None and seen_from[number] == start:
                return self.round_of(number)
        return None

    def round_of(self, last):
        """The round that ends with this spot, turned so that it begins with the turn 1."""
        found = [self.spots[last]]
        number = self.ahead[last]
        while number != last:
            found.append(self.spots[number])
            number = self.ahead[number]
        found.reverse()
        firsts = [at for at, (_, turn) in enumerate(found) if turn == 1]
        return tuple(found[firsts[0]:] + found[:firsts[0]])

    def walk_to(self, last):
        """The walk by which this spot was raised."""
        found = []
        number = last
        while number is not None:
            found.append(self.spots[number])
            number = self.ahead[number]
        return tuple(found[::-1])


def weight_of_round(weights, spots_of_round):
    waits = [wait for wait, turn in spots_of_round]
    return sum([weights[one][other] for one, other in zip(waits, waits[1:] + waits[:1])])


def greatest_rate(comers, bound, weights):
    """The greatest rate of all rounds, and a round that has it."""
    best = ((0, 1),)
    while True:
        fraction = reduced(weight_of_round(weights, best), len(best))
        above = Heights(comers, bound, less_each(weights, fraction[0], fraction[1])).round_above
        if above is None:
            return fraction, best
        best = above


def rate(comers, bound, weights):
    """The pair of the greatest rate of all rounds and a round that has it."""
    check_weights(comers, bound, weights)
    return greatest_rate(comers, bound, weights)


def rate_paper(comers, bound, weights, fraction):
    """A dict from all spots to fractions that shows that no round has a greater rate, or None."""
    check_weights(comers, bound, weights)
    check_fraction(fraction)
    found = Heights(comers, bound, less_each(weights, fraction[0], fraction[1]))
    if found.round_above is not None:
        return None
    return {spot: reduced(height, fraction[1]) for spot, height in zip(found.spots, found.heights)}


def is_rate_paper(comers, bound, weights, fraction, thing):
    """Whether a thing is a dict from all spots to fractions that shows that no round has a greater rate."""
    check_weights(comers, bound, weights)
    check_fraction(fraction)
    every = spots(comers, bound)
    if not isinstance(thing, dict) or len(thing) != len(every):
        return False
    # A flag is equal to an integer, so each key itself has to be judged.
    if not all([are_integers(key, 2) for key in thing]) or not all([spot in thing for spot in every]):
        return False
    if not all([is_fraction(height) for height in thing.values()]):
        return False
    less = less_each(weights, fraction[0], fraction[1])
    for spot in every:
        for other in nexts(comers, bound, spot):
            if not rises(thing[spot], thing[other], less[spot[0]][other[0]], fraction[1]):
                return False
    return True


def rises(low, high, top, bottom):
    """Whether one fraction is not below another one together with a third one."""
    return high[0] * low[1] * bottom >= (low[0] * bottom + top * low[1]) * high[1]


def coming_in(table, counts):
    """For each two waits how many loops come in from the first one to the second one, of those that count."""
    found = []
    for wait in range(table.bound + 1):
        here = wait_row(table, wait)
        row = []
        for other in range(table.bound + 1):
            row.append(len([loop for loop in counts if loop in wait_row(table, other) and loop not in here]))
        found.append(row)
    return found


def share(table, comers, loop):
    """The greatest share of letters in the long run at which the loop comes in, and a round that has it."""
    check_comers(comers)
    check_loop(table.loops, loop)
    return greatest_rate(comers, table.bound, coming_in(table, [loop]))


def work(table, comers):
    """The greatest number of loops that come in at a letter in the long run, and a round that has it."""
    check_comers(comers)
    return greatest_rate(comers, table.bound, coming_in(table, list(range(len(table.loops)))))


def ahead_of(one, other, comers):
    """How many more loops can come in by the one table than by the other, or a round at which ever more do."""
    check_comers(comers)
    if not isinstance(one, Table) or not isinstance(other, Table) or one.bound != other.bound:
        raise OtherBounds()
    mine = coming_in(one, list(range(len(one.loops))))
    others = coming_in(other, list(range(len(other.loops))))
    weights = [[more - less for more, less in zip(row, same)] for row, same in zip(mine, others)]
    found = Heights(comers, one.bound, weights)
    if found.round_above is not None:
        return "round", found.round_above
    most = max(found.heights)
    return "most", most, found.walk_to(found.heights.index(most))
