"""Clashes: whether two letters can want one loop at one tick, told by the entries of a table alone."""

from loopstore.checks import check_comers
from loopstore.tables import entries


def by_loop(ascending):
    """Ascending entries, parted by their loops: a dict from loops, ascending, to lists of entries."""
    found = {}
    for entry in ascending:
        found.setdefault(entry[0], []).append(entry)
    return found


def clash(one, other, comers):
    """Whether two entries of one loop clash, the first one with the lesser left."""
    # The other letter stands so many places behind the one, and no more can have come since.
    apart = other[2] - one[2]
    return apart > 0 and one[1] >= other[1] and apart <= comers * (one[1] - other[1]) + comers - 1


def clashing(ascending, comers):
    """Goes through all pairs of ascending entries that clash, ascending, the one with the lesser left first."""
    parted = by_loop(ascending)
    for same in parted.values():
        for one in same:
            for other in same:
                if clash(one, other, comers):
                    yield one, other


def first_clash(ascending, comers):
    """The least pair of ascending entries that clash, or None."""
    for pair in clashing(ascending, comers):
        return pair
    return None


def clashes(table, comers):
    """All pairs of entries that clash, ascending, in each the one with the lesser left first."""
    check_comers(comers)
    ascending = entries(table)
    return list(clashing(ascending, comers))


def safe(table, comers):
    """Whether no two entries clash."""
    check_comers(comers)
    return first_clash(entries(table), comers) is None
