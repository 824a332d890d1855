"""Stands: in how many ticks each letter in the line comes back, and how those at the switch can be laid."""

from itertools import permutations

from loopstore.checks import are_integers, check_bound, check_comers, check_loops, is_number
from loopstore.errors import NoLaying, NoNumber, NoStand


def is_stand(bound, thing):
    if not isinstance(thing, tuple) or len(thing) > bound:
        return False
    return all([is_number(left, 0, place) for place, left in enumerate(thing)])


def check_number(comers, thing):
    if not is_number(thing, 0, comers):
        raise NoNumber()


def check_tick(loops, comers, bound, stand, number):
    check_loops(loops)
    check_comers(comers)
    check_bound(bound)
    if not is_stand(bound, stand):
        raise NoStand()
    check_number(comers, number)


def line_of(bound, stand, number):
    """How many letters are in the line when so many have come, as far as they are not turned away."""
    return min(len(stand) + number, bound + 1)


def at_switch(bound, stand, number):
    """The places of all letters that are at the switch, ascending."""
    back = [place for place, left in enumerate(stand) if left == 0]
    come = list(range(len(stand), line_of(bound, stand, number)))
    # The letter at the place 0 goes out.
    return [place for place in back + come if place > 0]


def is_laying_out(loops, bound, stand, number, thing):
    """Whether a thing is a laying-out for the stand when so many letters come."""
    if not isinstance(thing, tuple) or not all([are_integers(pair, 2) for pair in thing]):
        return False
    if [place for place, loop in thing] != at_switch(bound, stand, number):
        return False
    if not all([0 <= loop < len(loops) and loops[loop] <= place for place, loop in thing]):
        return False
    return len(set([loop for place, loop in thing])) == len(thing)


def led_to(loops, bound, stand, number, laying):
    """The stand to which a laying-out leads."""
    lefts = list(stand) + [0] * (line_of(bound, stand, number) - len(stand))
    for place, loop in laying:
        lefts[place] = loops[loop]
    return tuple([left - 1 for left in lefts[1:]])


def layings_out(loops, comers, bound, stand, number):
    """All layings-out for the stand when so many letters come, ascending."""
    check_tick(loops, comers, bound, stand, number)
    places = at_switch(bound, stand, number)
    found = []
    for row in permutations(range(len(loops)), len(places)):
        if all([loops[loop] <= place for place, loop in zip(places, row)]):
            found.append(tuple(list(zip(places, row))))
    return found


def behind(loops, comers, bound, stand, number, thing):
    """The stand at the next tick behind a laying-out for the stand when so many letters come."""
    check_tick(loops, comers, bound, stand, number)
    if not is_laying_out(loops, bound, stand, number, thing):
        raise NoLaying()
    return led_to(loops, bound, stand, number, thing)
