"""Meetings: comings by which two letters enter one loop at one tick."""

from loopstore.checks import check_comers, is_comings, is_integer
from loopstore.clashes import first_clash
from loopstore.days import layings_of
from loopstore.lines import letters_of
from loopstore.tables import entries


def meeting_of(comers, one, other):
    """The meeting of two letters that have these entries, which clash."""
    _, gone, left = one
    _, later, more = other
    wait = gone + left
    rest = more - left
    # Coming as late as they can, the letters between the two wait no longer than these, so none is turned away.
    last_first = []
    for _ in range(gone - later):
        number = min(comers, rest)
        last_first.append(number)
        rest -= number
    comings = [2] * wait + [1 + rest] + last_first[::-1]
    return tuple(comings), 2 * wait, 2 * wait + more - left


def meeting(table, comers):
    """Comings and two letters that meet by them, or None."""
    check_comers(comers)
    found = first_clash(entries(table), comers)
    if found is None:
        return None
    return meeting_of(comers, found[0], found[1])


def places_of(table, letters, letter):
    """The pairs (tick, loop) at which a letter enters loops; none if it is turned away."""
    tick, _, wait = letters[letter]
    if wait is None:
        return []
    return [(entered, loop) for entered, same, loop in layings_of(table, tick, letter, wait)]


def is_meeting(table, comers, thing):
    """Whether a thing is a meeting of the table."""
    check_comers(comers)
    if not isinstance(thing, tuple) or len(thing) != 3:
        return False
    comings, one, other = thing
    if not is_comings(comers, comings) or not is_integer(one) or not is_integer(other):
        return False
    letters = letters_of(table.bound, comings)
    if not 0 <= one < other < len(letters):
        return False
    places = places_of(table, letters, one)
    return any([place in places for place in places_of(table, letters, other)])
