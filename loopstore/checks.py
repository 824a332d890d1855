"""What arguments may be. An is_ function judges any object; a check_ function raises the error of its argument."""

from loopstore.errors import NoBound, NoComers, NoComings, NoLoops

MOST_COMERS = 4
MOST_BOUND = 60
MOST_TICKS = 400
MOST_LOOPS = 8
MOST_LENGTH = 40
MOST_ITEMS = 60


def is_integer(thing):
    # A flag is an int to Python, but never to this package.
    return isinstance(thing, int) and not isinstance(thing, bool)


def is_number(thing, least, most):
    return is_integer(thing) and least <= thing <= most


def are_numbers(things, least, most):
    """Whether a list or tuple holds nothing but integers within these limits."""
    return all([is_number(thing, least, most) for thing in things])


def are_integers(thing, many):
    """Whether a thing is a tuple of just so many integers."""
    return isinstance(thing, tuple) and len(thing) == many and all([is_integer(item) for item in thing])


def is_comings(comers, thing):
    return isinstance(thing, tuple) and len(thing) <= MOST_TICKS and are_numbers(thing, 0, comers)


def is_loops(thing):
    return isinstance(thing, tuple) and 1 <= len(thing) <= MOST_LOOPS and are_numbers(thing, 1, MOST_LENGTH)


def is_row(loops, thing):
    return isinstance(thing, tuple) and len(thing) <= MOST_ITEMS and are_numbers(thing, 0, len(loops) - 1)


def check_comers(thing):
    if not is_number(thing, 2, MOST_COMERS):
        raise NoComers()


def check_bound(thing):
    if not is_number(thing, 1, MOST_BOUND):
        raise NoBound()


def check_comings(comers, thing):
    if not is_comings(comers, thing):
        raise NoComings()


def check_loops(thing):
    if not is_loops(thing):
        raise NoLoops()
