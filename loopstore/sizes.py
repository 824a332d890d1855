"""Sizes: how long a line loops can keep at most, and how many loops are needed at least."""

from loopstore.checks import check_bound, check_loops


def reach(loops):
    """The bound above which these loops keep no line, however much is known ahead."""
    check_loops(loops)
    total = 0
    for length in sorted(loops):
        if length > total + 1:
            break
        total += length
    return total


def flood(loops):
    """The comings that no switching of these loops keeps by a bound above their reach."""
    return (2,) * (reach(loops) + 1)


def fewest(bound):
    """The least number of loops that keep the bound against 2 comers, by whatever switching."""
    check_bound(bound)
    # So many loops keep at most 2 ** many - 1, and the lengths 1, 2, 4, .. keep just that.
    return bound.bit_length()


def lengths(bound):
    """The lengths 1, 2, 4, .. of the fewest loops that keep the bound."""
    return tuple([1 << number for number in range(fewest(bound))])
