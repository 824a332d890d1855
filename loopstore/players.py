"""Players: a switch that loses no comings, and a caller against whom each switching loses."""

from loopstore.checks import check_comings
from loopstore.errors import NoLaying, NoPlan, NotKept, NothingDone, NotLost, Over
from loopstore.games import closed, is_closed, lost
from loopstore.stands import check_number, is_laying_out, led_to


def led(loops, comers, bound, plan, comings):
    """The day that a closed list leads by the comings."""
    if not is_closed(loops, comers, bound, plan):
        raise NoPlan()
    check_comings(comers, comings)
    found = []
    stand = ()
    line = []
    come = 0
    tick = 0
    while tick < len(comings) or stand:
        number = comings[tick] if tick < len(comings) else 0
        line = (line + list(range(come, come + number)))[:bound + 1]
        come += number
        laying = plan[stand][number]
        found.extend([(tick, line[place], loop) for place, loop in laying])
        stand = led_to(loops, bound, stand, number, laying)
        line = line[1:]
        tick += 1
    return tuple(found)


class Switch:
    """Lays letters so that no comings are lost."""

    def __init__(self, loops, comers, bound):
        kept = closed(loops, comers, bound)
        if kept is None:
            raise NotKept()
        self.loops = loops
        self.comers = comers
        self.bound = bound
        self.kept = kept
        self.stands = [()]

    def stand(self):
        return self.stands[-1]

    def come(self, number):
        """Does a tick at which so many letters come; returns its laying-out."""
        check_number(self.comers, number)
        laying = self.kept[self.stand()][number]
        self.stands.append(led_to(self.loops, self.bound, self.stand(), number, laying))
        return laying

    def ticks(self):
        return len(self.stands) - 1

    def back(self):
        """Takes back the last tick that is not taken back."""
        if self.ticks() == 0:
            raise NothingDone()
        self.stands.pop()


class Caller:
    """Lets letters come so that each switching loses."""

    def __init__(self, loops, comers, bound):
        losing = lost(loops, comers, bound)
        if losing is None:
            raise NotLost()
        self.loops = loops
        self.bound = bound
        self.losing = losing
        self.now = ()

    def stand(self):
        return self.now

    def number(self):
        """How many letters come now; None if it is over."""
        return None if self.over() else self.losing[self.now][0]

    def lay(self, thing):
        """Does a tick by a laying-out for the stand and the number that comes."""
        if self.over():
            raise Over()
        if not is_laying_out(self.loops, self.bound, self.now, self.number(), thing):
            raise NoLaying()
        self.now = led_to(self.loops, self.bound, self.now, self.number(), thing)

    def over(self):
        """Whether there is no laying-out now."""
        return self.left() == 0

    def left(self):
        """How many ticks can be done yet at most."""
        # The depth is 0 just for those stands that have no laying-out for their number.
        return self.losing[self.now][1]
