"""Changes from one table to another while letters are inside the loops."""

from loopstore.checks import check_comers, check_comings, is_comings, is_number
from loopstore.clashes import by_loop
from loopstore.days import LAST_TICK, changed_layings, check_meet
from loopstore.errors import NoTable, NoTables, NoTick, OtherTables
from loopstore.lines import letters_of
from loopstore.meetings import meeting_of, places_of
from loopstore.tables import Table, entries

MOST_TABLES = 8


def are_alike(one, other):
    """Whether two things are tables with the same loops and the same bound."""
    if not isinstance(one, Table) or not isinstance(other, Table):
        return False
    return one.loops == other.loops and one.bound == other.bound


def check_change(one, other, comers):
    if not are_alike(one, other):
        raise OtherTables()
    check_comers(comers)


def cross(one, other, comers):
    """Whether an entry of the one table and an entry of the other one, of one loop, cross."""
    # The other letter comes later, so many places behind the one, and no more can have come since.
    apart = other[2] - one[2]
    later = one[1] - other[1]
    return apart > 0 and later > 0 and apart <= comers * later + comers - 1


def crossing_entries(ascending, parted, comers):
    """Goes through all pairs that cross of ascending entries and of those of the other table, parted by loops."""
    for entry in ascending:
        for further in parted.get(entry[0], []):
            if cross(entry, further, comers):
                yield entry, further


def first_crossing(one, other, comers):
    """The least pair of entries that cross, or None."""
    ascending = entries(one)
    parted = by_loop(entries(other))
    for pair in crossing_entries(ascending, parted, comers):
        return pair
    return None


def crossings(one, other, comers):
    """All pairs of an entry of the one table and an entry of the other one that cross, ascending."""
    check_change(one, other, comers)
    ascending = entries(one)
    parted = by_loop(entries(other))
    return list(crossing_entries(ascending, parted, comers))


def crossing(one, other, comers):
    """Comings, the tick of a change and two letters, one ahead of it and one behind, that meet; or None."""
    check_change(one, other, comers)
    found = first_crossing(one, other, comers)
    if found is None:
        return None
    comings, first, second = meeting_of(comers, found[0], found[1])
    # The second letter comes later than the first one, so the change may be at the very next tick.
    tick = letters_of(one.bound, comings)[first][0] + 1
    return comings, tick, first, second


def is_crossing(one, other, comers, thing):
    """Whether a thing is a crossing of the tables."""
    check_change(one, other, comers)
    if not isinstance(thing, tuple) or len(thing) != 4:
        return False
    comings, tick, first, second = thing
    if not is_comings(comers, comings) or not is_number(tick, 1, LAST_TICK):
        return False
    letters = letters_of(one.bound, comings)
    if not all([is_number(letter, 0, len(letters) - 1) for letter in (first, second)]):
        return False
    if not letters[first][0] < tick <= letters[second][0]:
        return False
    places = places_of(one, letters, first)
    return any([place in places for place in places_of(other, letters, second)])


def changed_day(one, other, comers, comings, tick):
    """All layings, ascending, if the one table is changed for the other one at the tick."""
    check_change(one, other, comers)
    check_comings(comers, comings)
    if not is_number(tick, 1, LAST_TICK):
        raise NoTick()
    layings = changed_layings(one, other, comings, tick)
    check_meet(layings)
    return layings


def check_tables(thing):
    if not isinstance(thing, (list, tuple)) or not 1 <= len(thing) <= MOST_TABLES:
        raise NoTables()
    if not all([are_alike(thing[0], table) for table in thing]):
        raise NoTables()


def smooth(tables, comers):
    """All pairs of unlike numbers of tables, ascending, so that no entries cross by a change from one to the other."""
    check_tables(tables)
    check_comers(comers)
    found = []
    for number, one in enumerate(tables):
        for further, other in enumerate(tables):
            if number != further and first_crossing(one, other, comers) is None:
                found.append((number, further))
    return found


def shortest_way(steps, first, last):
    """The least of the shortest tuples of numbers from first to last by these ascending steps, or None."""
    seen = {first: True}
    ways = [(first,)]
    # All ways of one length stand in ascending order, so the least one comes first to each number.
    while ways:
        longer = []
        for way in ways:
            if way[-1] == last:
                return way
            for number, further in steps:
                if number == way[-1] and further not in seen:
                    seen[further] = True
                    longer.append(way + (further,))
        ways = longer
    return None


def change_way(tables, comers, first, last):
    """The numbers of tables on a shortest way of smooth changes from first to last, the least such tuple, or None."""
    steps = smooth(tables, comers)
    for number in (first, last):
        if not is_number(number, 0, len(tables) - 1):
            raise NoTable()
    return shortest_way(steps, first, last)
