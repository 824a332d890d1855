"""The line: how long letters wait, whatever comes, and which waits can follow one another."""

from loopstore.checks import are_integers, check_bound, check_comers, check_comings
from loopstore.errors import NoSpot, NoWalk

MOST_SPOTS = 60


def follow_line(bound, line, comings):
    """All letters that come, as triples (tick, turn, wait), and the number of letters in the line behind each tick.

    So many letters stand in the line at first. The wait of a letter that is turned away is None.
    """
    letters = []
    behind = []
    for tick, number in enumerate(comings):
        for turn in range(1, number + 1):
            if line > bound:
                letters.append((tick, turn, None))
            else:
                letters.append((tick, turn, line))
                line += 1
        if line > 0:
            line -= 1
        behind.append(line)
    return letters, behind


def letters_of(bound, comings):
    """All letters, in the order of their numbers, as triples (tick, turn, wait)."""
    letters, _ = follow_line(bound, 0, comings)
    return letters


def comes(comers, comings):
    """The ticks at which the letters come."""
    check_comers(comers)
    check_comings(comers, comings)
    ticks = []
    for tick, number in enumerate(comings):
        ticks.extend([tick] * number)
    return ticks


def waits(comers, bound, comings):
    """The waits of the letters, None for one that is turned away."""
    check_comers(comers)
    check_bound(bound)
    check_comings(comers, comings)
    return [wait for tick, turn, wait in letters_of(bound, comings)]


def lines(comers, bound, comings):
    """The numbers of letters that stand in the line behind each tick."""
    check_comers(comers)
    check_bound(bound)
    check_comings(comers, comings)
    _, behind = follow_line(bound, 0, comings)
    return behind


def outs(comers, bound, comings):
    """All pairs (tick, letter), the letter going out at the tick, until the line is empty."""
    check_comers(comers)
    check_bound(bound)
    check_comings(comers, comings)
    # The line keeps the order of the letters, so the pairs are ascending as they are found.
    found = []
    for letter, (tick, _, wait) in enumerate(letters_of(bound, comings)):
        if wait is not None:
            found.append((tick + wait, letter))
    return found


def is_spot(comers, bound, thing):
    if not are_integers(thing, 2):
        return False
    wait, turn = thing
    return 0 <= wait <= bound and 1 <= turn <= comers and wait >= turn - 1


def is_next(comers, bound, spot, other):
    """Whether a thing is a spot next to a spot."""
    if not is_spot(comers, bound, other):
        return False
    wait, turn = spot
    return other == (wait + 1, turn + 1) or (other[1] == 1 and other[0] <= wait)


def is_walk(comers, bound, thing):
    if not isinstance(thing, (list, tuple)) or len(thing) == 0:
        return False
    first = thing[0]
    if not is_spot(comers, bound, first) or first[1] != 1:
        return False
    # Each spot is judged as the next one of a spot that was judged, so none is read unjudged.
    for at in range(1, len(thing)):
        if not is_next(comers, bound, thing[at - 1], thing[at]):
            return False
    return True


def spots(comers, bound):
    """All spots, ascending."""
    check_comers(comers)
    check_bound(bound)
    return [(wait, turn) for wait in range(bound + 1) for turn in range(1, min(comers, wait + 1) + 1)]


def nexts(comers, bound, spot):
    """The spots next to a spot, ascending."""
    check_comers(comers)
    check_bound(bound)
    if not is_spot(comers, bound, spot):
        raise NoSpot()
    wait, turn = spot
    found = [(other, 1) for other in range(wait + 1)]
    above = (wait + 1, turn + 1)
    if is_spot(comers, bound, above):
        found.append(above)
    return found


def walk(comers, bound, comings):
    """The spots of all letters that are not turned away, in order."""
    check_comers(comers)
    check_bound(bound)
    check_comings(comers, comings)
    return [(wait, turn) for tick, turn, wait in letters_of(bound, comings) if wait is not None]


def comings_for(comers, bound, row):
    """Comings by which letters have just the spots of a walk, and the number of the first of these letters."""
    check_comers(comers)
    check_bound(bound)
    if not is_walk(comers, bound, row) or len(row) > MOST_SPOTS:
        raise NoWalk()
    # Each tick at which two come and one goes makes the line longer by one.
    start = row[0][0]
    comings = [2] * start + [1]
    for (wait, _), (other, turn) in zip(row, row[1:]):
        if turn > 1:
            comings[-1] += 1
        else:
            comings.extend([0] * (wait - other) + [1])
    return tuple(comings), 2 * start
