"""Bars: trees of asked waits that show that loops have no safe table.

A plan of a bar is a pair (wait, plans): plans is a dict from the numbers of some rows for the wait to plans again. Each
other row is no friend of the row of a wait that is asked ahead on the way.
"""

from loopstore.checks import is_integer, is_number
from loopstore.search import Choices, check_search, chosen

FIRST_STEPS = 100


def ones(mask):
    """How many rows a mask stands for."""
    return f"{mask:b}".count("1")


class Planner:
    """Looks for a plan, asking waits that failed often ahead of others."""

    def __init__(self, choices, bound):
        self.choices = choices
        self.weights = [1] * (bound + 1)
        self.asked = []
        self.steps = 0

    def wait_to_ask(self, alive, waits):
        """The wait with the fewest living rows for its weight; one without any at once."""
        best, fewest = waits[0], ones(alive & self.choices.masks[waits[0]])
        for wait in waits:
            many = ones(alive & self.choices.masks[wait])
            if many == 0:
                self.weights[wait] += 1
                return wait
            if many * self.weights[best] < fewest * self.weights[wait]:
                best, fewest = wait, many
        return best

    def waits_against(self, dead, used):
        """A dict of asked waits such that each row of a mask is no friend of the row of one; used ones come first."""
        found = {}
        left = dead
        shared = [pair for pair in self.asked if pair[0] in used]
        for wait, row in shared + self.asked:
            friendly = left & self.choices.friendly[row]
            if friendly != left:
                found[wait] = True
                left = friendly
        return found

    def plan(self, alive, waits):
        """A pair of a plan and a dict of the asked waits that it needs; None if the steps are done."""
        if self.steps == 0:
            return None
        self.steps -= 1
        asked = self.wait_to_ask(alive, waits)
        living = self.choices.for_wait(alive, asked)
        others = [wait for wait in waits if wait != asked]
        plans = {}
        needed = {}
        for number in living:
            self.asked.append((asked, number))
            found = self.plan(alive & self.choices.friendly[number], others)
            self.asked.pop()
            # A plan that does not need this wait is one without it, too.
            if found is None or asked not in found[1]:
                return found
            plans[number] = found[0]
            needed.update(found[1])
        needed.pop(asked, None)
        needed.update(self.waits_against(self.choices.masks[asked] & ~alive, needed))
        return (asked, plans), needed


def planned(choices, bound):
    """A plan of a bar; there must be no safe table."""
    planner = Planner(choices, bound)
    steps = FIRST_STEPS
    found = None
    # What is learned when the steps run out makes the next plan smaller.
    while found is None:
        planner.steps = steps
        found = planner.plan(choices.upto(bound), list(range(1, bound + 1)))
        steps += steps // 2
    return found[0]


def foe(choices, asked, number):
    """The first asked wait whose row is no friend of the row of this number."""
    for wait, row in asked:
        if not choices.are_friends(row, number):
            return wait
    return None


def written(choices, plan, asked):
    """The bar of a plan behind these asked waits: pairs of a wait and the number of its row."""
    wait, plans = plan
    parts = []
    for number in choices.numbers[wait]:
        if number in plans:
            parts.append(written(choices, plans[number], asked + [(wait, number)]))
        else:
            parts.append(foe(choices, asked, number))
    return wait, tuple(parts)


def barred(loops, comers, bound):
    """A bar, or None if there is a safe table."""
    check_search(loops, comers, bound)
    choices = Choices(loops, comers, bound)
    if chosen(choices, choices.upto(bound), 1, bound, {}) is not None:
        return None
    return written(choices, planned(choices, bound), [])


def holds(choices, bound, asked, thing):
    """Whether a thing is a bar behind the asked waits, a dict from each to the number of its row."""
    if not isinstance(thing, tuple) or len(thing) != 2:
        return False
    wait, parts = thing
    if not is_number(wait, 1, bound) or wait in asked or not isinstance(parts, tuple):
        return False
    numbers = choices.numbers[wait]
    if len(parts) != len(numbers):
        return False
    for number, part in zip(numbers, parts):
        if is_integer(part):
            if part not in asked or choices.are_friends(asked[part], number):
                return False
        elif not holds(choices, bound, {**asked, wait: number}, part):
            return False
    return True


def is_barred(loops, comers, bound, thing):
    """Whether a thing is a bar."""
    check_search(loops, comers, bound)
    return holds(Choices(loops, comers, bound), bound, {}, thing)
