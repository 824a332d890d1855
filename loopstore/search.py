"""Tables by search, for any loops: a row of unlike loops for each wait, each two of them friends."""

from itertools import permutations

from loopstore.checks import MOST_BOUND, check_bound, check_comers, check_loops, is_number, is_row
from loopstore.clashes import by_loop, clash, first_clash
from loopstore.errors import NoRow, NoTold, NoWait, TooMany
from loopstore.sizes import reach
from loopstore.tables import Table, row_entries, row_sum

MOST_SEARCHED = 6


def check_few(loops):
    if len(loops) > MOST_SEARCHED:
        raise TooMany(MOST_SEARCHED)


def check_search(loops, comers, bound):
    check_loops(loops)
    check_comers(comers)
    check_bound(bound)
    check_few(loops)


def check_row(loops, thing):
    if not is_row(loops, thing):
        raise NoRow()


def is_told(loops, bound, thing):
    """Whether a thing is a dict from waits up to the bound to rows with these sums."""
    if not isinstance(thing, dict):
        return False
    for wait, row in thing.items():
        if not is_number(wait, 1, bound) or not is_row(loops, row) or row_sum(loops, row) != wait:
            return False
    return True


def rows_by_wait(loops, most):
    """For each wait from 0 to most the ascending list of all rows of unlike loops with this sum."""
    found = [[] for _ in range(most + 1)]
    for many in range(len(loops) + 1):
        for row in permutations(range(len(loops)), many):
            total = row_sum(loops, row)
            if total <= most:
                found[total].append(row)
    return [sorted(rows) for rows in found]


def rows_for(loops, wait):
    """All rows of unlike loops with this sum, ascending."""
    check_loops(loops)
    if not is_number(wait, 1, MOST_BOUND):
        raise NoWait()
    check_few(loops)
    return rows_by_wait(loops, wait)[wait]


def befriended(loops, comers, row, other):
    return first_clash(sorted(row_entries(loops, row) + row_entries(loops, other)), comers) is None


def friends(loops, comers, row, other):
    """Whether no entries of the two rows clash, those of one row with each other neither."""
    check_loops(loops)
    check_comers(comers)
    check_row(loops, row)
    check_row(loops, other)
    return befriended(loops, comers, row, other)


def foes_by_entry(having, comers):
    """For each entry the mask of the rows that have one with which it clashes, of a dict of those that have it."""
    found = {entry: 0 for entry in having}
    parted = by_loop(sorted(having))
    for same in parted.values():
        for one in same:
            for other in same:
                if clash(one, other, comers):
                    found[one] |= having[other]
                    found[other] |= having[one]
    return found


def friends_by_row(loops, comers, rows):
    """For each of the rows the mask of its friends among them."""
    having = {}
    for number, row in enumerate(rows):
        for entry in row_entries(loops, row):
            having[entry] = having.get(entry, 0) | (1 << number)
    foes = foes_by_entry(having, comers)
    everyone = (1 << len(rows)) - 1
    found = []
    for row in rows:
        barring = 0
        for entry in row_entries(loops, row):
            barring |= foes[entry]
        found.append(everyone ^ barring)
    return found


class Choices:
    """All rows of unlike loops for the waits up to a bound, numbered wait by wait, and who is whose friend.

    A mask is an integer that stands for some of these rows, by a bit for the number of each.
    """

    def __init__(self, loops, comers, bound):
        self.rows = []
        self.numbers = [[]]
        self.masks = [0]
        for rows in rows_by_wait(loops, bound)[1:]:
            first = len(self.rows)
            self.rows.extend(rows)
            self.numbers.append(list(range(first, len(self.rows))))
            self.masks.append((1 << len(self.rows)) - (1 << first))
        self.friendly = friends_by_row(loops, comers, self.rows)

    def upto(self, bound):
        """The mask of all rows for the waits up to the bound."""
        return sum(self.masks[:bound + 1])

    def are_friends(self, number, other):
        return (self.friendly[number] >> other) & 1 == 1

    def for_wait(self, alive, wait):
        """The numbers of those rows for the wait that are alive."""
        return [number for number in self.numbers[wait] if (alive >> number) & 1]

    def behind(self, alive, wait, number):
        """The mask of those rows for greater waits that are alive and friends of this row for the wait."""
        return alive & self.friendly[number] & ~self.upto(wait)

    def lacks(self, alive, least, bound):
        """Whether some wait within these limits has no row that is alive."""
        return any([alive & mask == 0 for mask in self.masks[least:bound + 1]])


def chosen(choices, alive, wait, bound, hopeless):
    """The numbers of living rows for this wait up to the bound that are all friends, or None."""
    if wait > bound:
        return []
    if alive in hopeless or choices.lacks(alive, wait, bound):
        return None
    for number in choices.for_wait(alive, wait):
        more = chosen(choices, choices.behind(alive, wait, number), wait + 1, bound, hopeless)
        if more is not None:
            return [number] + more
    hopeless[alive] = True
    return None


def counted(choices, alive, wait, bound, known):
    """How many choices of living rows there are for this wait up to the bound that are all friends."""
    if wait > bound:
        return 1
    if choices.lacks(alive, wait, bound):
        return 0
    if alive not in known:
        many = 0
        for number in choices.for_wait(alive, wait):
            many += counted(choices, choices.behind(alive, wait, number), wait + 1, bound, known)
        known[alive] = many
    return known[alive]


def chosen_table(loops, choices, alive, bound):
    """A safe table of living rows, or None."""
    numbers = chosen(choices, alive, 1, bound, {})
    if numbers is None:
        return None
    return Table(loops, tuple([choices.rows[number] for number in numbers]))


def table_for(loops, comers, bound):
    """A safe table of these loops with this bound, or None."""
    check_search(loops, comers, bound)
    choices = Choices(loops, comers, bound)
    return chosen_table(loops, choices, choices.upto(bound), bound)


def completed(loops, comers, bound, told):
    """A safe table with the rows that are told for some waits, or None."""
    check_search(loops, comers, bound)
    if not is_told(loops, bound, told):
        raise NoTold()
    choices = Choices(loops, comers, bound)
    alive = choices.upto(bound)
    for wait, row in told.items():
        kept = [number for number in choices.numbers[wait] if choices.rows[number] == row]
        # A row with a loop several times is no friend of itself, so it is none of these.
        if not kept:
            return None
        alive = (alive & ~choices.masks[wait]) | (1 << kept[0])
    return chosen_table(loops, choices, alive, bound)


def greatest_table(loops, comers):
    """The greatest bound up to 60 for which there is a safe table, 0 if there is none."""
    check_loops(loops)
    check_comers(comers)
    check_few(loops)
    # Above their reach the loops keep no bound, so no table of them is safe.
    top = min(MOST_BOUND, reach(loops))
    choices = Choices(loops, comers, top)
    for bound in range(1, top + 1):
        if chosen(choices, choices.upto(bound), 1, bound, {}) is None:
            return bound - 1
    return top


def count_tables(loops, comers, bound):
    """How many safe tables of these loops with this bound there are."""
    check_search(loops, comers, bound)
    choices = Choices(loops, comers, bound)
    return counted(choices, choices.upto(bound), 1, bound, {})
