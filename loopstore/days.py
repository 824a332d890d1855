"""Days: at which tick which letter enters which loop, by a table or by whatever switching."""

from loopstore.checks import are_integers, check_bound, check_comers, check_comings, check_loops, is_number
from loopstore.errors import Meet, NoTick
from loopstore.lines import letters_of
from loopstore.tables import wait_entries

LAST_TICK = 1000


def layings_of(table, tick, letter, wait):
    """The layings by the table of a letter that comes at the tick with the wait."""
    return [(tick + gone, letter, loop) for loop, gone, left in wait_entries(table, wait)]


def changed_layings(one, other, comings, change):
    """All layings by the one table for letters that come ahead of a tick, by the other one for all later letters.

    They are ascending; letters that meet are among them.
    """
    found = []
    for letter, (tick, _, wait) in enumerate(letters_of(one.bound, comings)):
        if wait is not None:
            found.extend(layings_of(one if tick < change else other, tick, letter, wait))
    return sorted(found)


def table_layings(table, comings):
    """All layings by the table, ascending, also of letters that meet."""
    return changed_layings(table, table, comings, 0)


def first_meet(layings):
    """The least pair (tick, loop) that several layings have, or None."""
    found = sorted([(tick, loop) for tick, letter, loop in layings])
    for one, other in zip(found, found[1:]):
        if one == other:
            return one
    return None


def check_meet(layings):
    met = first_meet(layings)
    if met is not None:
        raise Meet(met[0], met[1])


def day(table, comers, comings):
    """All layings by the table, ascending."""
    check_comers(comers)
    check_comings(comers, comings)
    layings = table_layings(table, comings)
    check_meet(layings)
    return layings


def inside_by(loops, layings, tick):
    """All triples (loop, letter, left) by the layings: behind the tick the letter is in the loop for so many more."""
    found = []
    for entered, letter, loop in layings:
        left = entered + loops[loop] - tick
        if entered <= tick and left > 0:
            found.append((loop, letter, left))
    return sorted(found)


def inside(table, comers, comings, tick):
    """All triples (loop, letter, left): behind the tick the letter is in the loop for so many ticks more."""
    check_comers(comers)
    check_comings(comers, comings)
    if not is_number(tick, 0, LAST_TICK):
        raise NoTick()
    return inside_by(table.loops, table_layings(table, comings), tick)


def waiting_spans(bound, comings):
    """For each letter with a wait from 1 on, in order, the triple (letter, tick of its coming, tick of its going)."""
    found = []
    for letter, (tick, _, wait) in enumerate(letters_of(bound, comings)):
        if wait is not None and wait > 0:
            found.append((letter, tick, tick + wait))
    return found


def is_list_of_layings(loops, thing):
    """Whether a thing is an ascending tuple of layings, no two of them with the same tick and loop."""
    if not isinstance(thing, tuple):
        return False
    for item in thing:
        if not are_integers(item, 3) or not 0 <= item[2] < len(loops):
            return False
    for one, other in zip(thing, thing[1:]):
        if not one < other:
            return False
    return first_meet(thing) is None


def all_kept_going(loops, spans, layings):
    """Whether the layings, in order, lead each of the letters from its coming to its going, and no other letter."""
    due = {letter: tick for letter, tick, out in spans}
    outs = {letter: out for letter, tick, out in spans}
    for tick, letter, loop in layings:
        if letter not in due or due[letter] != tick:
            return False
        back = tick + loops[loop]
        if back > outs[letter]:
            return False
        if back == outs[letter]:
            del due[letter]
        else:
            due[letter] = back
    return len(due) == 0


def is_day(loops, comers, bound, comings, thing):
    """Whether a thing is a day of these loops, by whatever switching."""
    check_loops(loops)
    check_comers(comers)
    check_bound(bound)
    check_comings(comers, comings)
    if not is_list_of_layings(loops, thing):
        return False
    return all_kept_going(loops, waiting_spans(bound, comings), thing)
