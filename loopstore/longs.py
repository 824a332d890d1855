"""Long comings: some comings again and again, up to 10 ** 30 times or for ever."""

from loopstore.checks import check_bound, check_comers, is_comings, is_number
from loopstore.errors import NoLong
from loopstore.lines import follow_line
from loopstore.rates import reduced

MOST_PAIRS = 20
MOST_ROUND = 60


def is_round(comers, thing):
    """Whether a thing is comings of few enough ticks to be repeated, perhaps of none."""
    return is_comings(comers, thing) and len(thing) <= MOST_ROUND


def is_long_pair(comers, thing):
    """Whether a thing is a pair of comings and of how many times they come."""
    if not isinstance(thing, tuple) or len(thing) != 2:
        return False
    return is_round(comers, thing[0]) and is_number(thing[1], 0, 10 ** 30)


def check_long(comers, bound, long):
    check_comers(comers)
    check_bound(bound)
    if not isinstance(long, tuple) or len(long) > MOST_PAIRS or not all([is_long_pair(comers, pair) for pair in long]):
        raise NoLong()


def check_round(comers, bound, comings):
    check_comers(comers)
    check_bound(bound)
    if not is_round(comers, comings) or len(comings) == 0:
        raise NoLong()


def follow_round(bound, line, comings):
    """The line behind the comings, if so many letters stand in it at first, and how many came and were turned away."""
    letters, behind = follow_line(bound, line, comings)
    away = len([tick for tick, _, wait in letters if wait is None])
    return behind[-1] if behind else line, len(letters), away


def follow_long(bound, long):
    """The line behind long comings, and how many letters came and were turned away until then."""
    line = 0
    came = 0
    away = 0
    for comings, times in long:
        left = times
        while left > 0:
            behind, more, lost = follow_round(bound, line, comings)
            # A round that leaves the line as it was is like all those behind it.
            alike = left if behind == line else 1
            line = behind
            came += alike * more
            away += alike * lost
            left -= alike
    return line, came, away


def long_line(comers, bound, long):
    """The number of letters in the line behind the last tick."""
    check_long(comers, bound, long)
    line, _, _ = follow_long(bound, long)
    return line


def long_counts(comers, bound, long):
    """How many letters came, have gone out, and were turned away until the last tick."""
    check_long(comers, bound, long)
    line, came, away = follow_long(bound, long)
    return came, came - away - line, away


def settle(bound, comings):
    """As settled, of comings that are judged already."""
    rounds = 0
    line = 0
    behind, _, _ = follow_round(bound, line, comings)
    while behind != line:
        rounds += 1
        line = behind
        behind, _, _ = follow_round(bound, line, comings)
    return rounds, line


def settled(comers, bound, comings):
    """The pair of the least number of rounds behind which the line stays the same, and this line."""
    check_round(comers, bound, comings)
    return settle(bound, comings)


def lost_share(comers, bound, comings):
    """The fraction of the letters of a round that are turned away, once the line stays the same."""
    check_round(comers, bound, comings)
    _, line = settle(bound, comings)
    _, came, away = follow_round(bound, line, comings)
    return reduced(away, came) if came > 0 else (0, 1)
