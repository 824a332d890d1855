"""Doubling: loops each at most twice as long as the one before keep every line up to their sum."""

from loopstore.checks import MOST_BOUND, MOST_LOOPS, check_loops, is_number
from loopstore.errors import NoTotal, NotDoubling, NoWait, TooMany
from loopstore.tables import Table

MOST_TOTAL = 16


def ordered(loops):
    """The numbers of the loops in their order: by their lengths, then by their numbers."""
    return sorted(range(len(loops)), key=lambda loop: (loops[loop], loop))


def doubling(loops):
    """Whether the first length in their order is 1 and each is at most twice the one ahead of it."""
    check_loops(loops)
    ascending = sorted(loops)
    return ascending[0] == 1 and all([more <= 2 * less for less, more in zip(ascending, ascending[1:])])


def check_doubling(loops):
    if not doubling(loops):
        raise NotDoubling()


def taken(loops, wait):
    """The row of the wait: going through the order from behind, each loop that still fits is taken."""
    found = []
    left = wait
    for loop in reversed(ordered(loops)):
        if loops[loop] <= left:
            found.append(loop)
            left -= loops[loop]
    return tuple(found[::-1])


def digits(loops, wait):
    """The row of doubling loops for a wait up to their sum."""
    check_doubling(loops)
    if not is_number(wait, 1, sum(loops)):
        raise NoWait()
    return taken(loops, wait)


def doubling_table(loops):
    """The table of the digits of all waits up to the sum of doubling loops."""
    check_doubling(loops)
    if sum(loops) > MOST_BOUND:
        raise TooMany(MOST_BOUND)
    return Table(loops, tuple([taken(loops, wait) for wait in range(1, sum(loops) + 1)]))


def doubling_lists(total):
    """All doubling loops with this sum, none shorter than the one ahead of it, ascending."""
    if not is_number(total, 1, MOST_TOTAL):
        raise NoTotal()
    found = []
    grown = [(1,)]
    while grown:
        loops = grown.pop()
        if sum(loops) == total:
            found.append(loops)
        elif len(loops) < MOST_LOOPS:
            last = loops[-1]
            most = min(2 * last, total - sum(loops))
            grown.extend([loops + (length,) for length in range(last, most + 1)])
    return sorted(found)
