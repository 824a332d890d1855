"""Clashes: whether two letters can want one loop at one tick, told by the entries of a table alone."""

from loopstore.checks import check_comers
from loopstore.tables import entries


def entries_by_loop(table):
    """The entries of each loop that has some; loops and entries ascending."""
    found = {}
    for entry in entries(table):
        found.setdefault(entry[0], []).append(entry)
    return found


def clashing(table, comers):
    """Goes through all pairs of entries that clash, ascending, in each the one with the lesser left first."""
    by_loop = entries_by_loop(table)
    for same in by_loop.values():
        for one in same:
            for other in same:
                # The other letter stands so many places behind the one, and no more can have come since.
                apart = other[2] - one[2]
                if apart > 0 and one[1] >= other[1] and apart <= comers * (one[1] - other[1]) + comers - 1:
                    yield one, other


def first_clash(table, comers):
    """The least pair of entries that clash, or None."""
    for pair in clashing(table, comers):
        return pair
    return None


def clashes(table, comers):
    """All pairs of entries that clash, ascending, in each the one with the lesser left first."""
    check_comers(comers)
    return list(clashing(table, comers))


def safe(table, comers):
    """Whether no two entries clash."""
    check_comers(comers)
    return first_clash(table, comers) is None
