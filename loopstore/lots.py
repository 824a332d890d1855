"""Lots: which loops are needed for a bound, which are cheapest, and how few items the rows of a table can have."""

from itertools import combinations

from loopstore.checks import MOST_LENGTH, check_bound, check_comers, is_number
from loopstore.errors import NoPrices
from loopstore.games import closed
from loopstore.search import MOST_SEARCHED, Choices, check_search, table_for
from loopstore.sizes import reach
from loopstore.tables import Table

MOST_PRICE = 1000000


def has_closed(loops, comers, bound):
    return reach(loops) >= bound and closed(loops, comers, bound) is not None


def has_table(loops, comers, bound):
    # No loops keep a bound above their reach, so the search can be spared.
    return reach(loops) >= bound and table_for(loops, comers, bound) is not None


def least_lots(loops, keeps):
    """All lots of loops of which the lengths are enough, and none of which can be spared, ascending."""
    found = []
    for many in range(1, len(loops) + 1):
        for lot in combinations(range(len(loops)), many):
            spared = [least for least in found if all([loop in lot for loop in least])]
            if not spared and keeps(tuple([loops[loop] for loop in lot])):
                found.append(lot)
    return sorted(found)


def needed(loops, comers, bound):
    """All least lots of loops with which alone there is a closed list, ascending."""
    check_search(loops, comers, bound)
    return least_lots(loops, lambda lengths: has_closed(lengths, comers, bound))


def needed_tables(loops, comers, bound):
    """All least lots of loops with which alone there is a safe table, ascending."""
    check_search(loops, comers, bound)
    return least_lots(loops, lambda lengths: has_table(lengths, comers, bound))


def is_prices(thing):
    if not isinstance(thing, dict) or not 1 <= len(thing) <= MOST_SEARCHED:
        return False
    return all([is_number(length, 1, MOST_LENGTH) and is_number(thing[length], 1, MOST_PRICE) for length in thing])


def all_loops(lengths):
    """All loops of these ascending lengths that can be searched, none shorter than the one ahead of it."""
    found = []
    longest = [()]
    for _ in range(MOST_SEARCHED):
        longest = [loops + (length,) for loops in longest for length in lengths if not loops or loops[-1] <= length]
        found.extend(longest)
    return found


def cheapest(prices, comers, bound):
    """The pair of the least price and the least loops for it with which there is a safe table, or None."""
    if not is_prices(prices):
        raise NoPrices()
    check_comers(comers)
    check_bound(bound)
    offers = [(sum([prices[length] for length in loops]), loops) for loops in all_loops(sorted(prices))]
    for price, loops in sorted(offers):
        if has_table(loops, comers, bound):
            return price, loops
    return None


class Weigher:
    """Finds living rows that are all friends and have the fewest items together, wait by wait."""

    def __init__(self, choices, bound):
        self.choices = choices
        self.bound = bound
        # For masks of living rows the pair of the fewest items and the number of the first row, or None.
        self.known = {}

    def fewest_items(self, alive, wait):
        """The fewest items of rows for this wait and all greater ones, or None."""
        if wait > self.bound:
            return 0
        # A mask without rows for this wait may be known as one for greater waits alone.
        if self.choices.lacks(alive, wait, self.bound):
            return None
        if alive not in self.known:
            self.known[alive] = self.best_row(alive, wait)
        best = self.known[alive]
        return None if best is None else best[0]

    def best_row(self, alive, wait):
        best = None
        for number in self.choices.for_wait(alive, wait):
            further = self.fewest_items(self.choices.behind(alive, wait, number), wait + 1)
            if further is not None:
                many = further + len(self.choices.rows[number])
                if best is None or many < best[0]:
                    best = (many, number)
        return best

    def chosen_rows(self):
        """The rows, one for each wait; there must be some."""
        found = []
        alive = self.choices.upto(self.bound)
        for wait in range(1, self.bound + 1):
            _, number = self.known[alive]
            found.append(self.choices.rows[number])
            alive = self.choices.behind(alive, wait, number)
        return tuple(found)


def lightest(loops, comers, bound):
    """The pair of the least number of items of a safe table and such a table, or None."""
    check_search(loops, comers, bound)
    choices = Choices(loops, comers, bound)
    weigher = Weigher(choices, bound)
    fewest = weigher.fewest_items(choices.upto(bound), 1)
    if fewest is None:
        return None
    return fewest, Table(loops, weigher.chosen_rows())
