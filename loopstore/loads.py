"""Loads: how many letters can be in one loop, and how many can be laid at one tick, for all comings."""

from loopstore.checks import check_comers, is_number
from loopstore.errors import NoLoop
from loopstore.tables import wait_entries


def check_loop(loops, thing):
    if not is_number(thing, 0, len(loops) - 1):
        raise NoLoop()


def group(counts, comers, bound, place, age):
    """How many letters of this age from this place on count, for each number of them that can have come at one tick."""
    found = [0]
    for last in range(place, min(place + comers, bound - age + 1)):
        found.append(found[-1] + counts[last + age][age])
    return found


def best_groups(counts, comers, bound):
    """For each age and place the pair of the most that count and of how many of this age then stand from there on."""
    best = []
    for age in range(bound):
        row = []
        for place in range(bound + 2):
            most = (0, 0)
            for many, here in enumerate(group(counts, comers, bound, place, age)):
                later = best[-1][place + many][0] if best else 0
                if here + later > most[0]:
                    most = (here + later, many)
            row.append(most)
        best.append(row)
    return best


def most_at_once(counts, comers, bound):
    """The pair of the most letters in the line that can count behind one tick, and comings by which so many do.

    By counts a letter counts or not, told by the wait with which it came and how many ticks ago that was.
    """
    best = best_groups(counts, comers, bound)
    numbers = []
    place = 1
    # The letters in the line have the places from 1 on, the elder ones ahead, at most comers of one age.
    for row in reversed(best):
        many = row[place][1]
        if many > 0 or numbers:
            numbers.append(many)
        place += many
    if not numbers:
        return 0, (0,)
    # As many twos give the first of them the wait by which it has its place.
    return best[-1][1][0], (2,) * len(numbers) + tuple(numbers)


def counts_of(table, ages_of):
    """For each wait, and for each number of ticks since the coming, 1 if it is among the ages of the wait, else 0."""
    found = []
    for wait in range(table.bound + 1):
        ages = ages_of(wait)
        found.append([1 if age in ages else 0 for age in range(table.bound + 1)])
    return found


def fullest(table, comers, loop):
    """The greatest number of letters that are inside the loop behind one tick, and comings for it."""
    check_comers(comers)
    check_loop(table.loops, loop)

    def ages_inside(wait):
        found = []
        for entered, gone, _ in wait_entries(table, wait):
            if entered == loop:
                found.extend(list(range(gone, gone + table.loops[loop])))
        return found

    return most_at_once(counts_of(table, ages_inside), comers, table.bound)


def busiest(table, comers):
    """The greatest number of layings at one tick, and comings for it."""
    check_comers(comers)

    def ages_laid(wait):
        return [gone for _, gone, _ in wait_entries(table, wait)]

    return most_at_once(counts_of(table, ages_laid), comers, table.bound)
