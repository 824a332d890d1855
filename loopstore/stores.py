"""Stores: a line that is kept in loops by a table, led tick by tick."""

from loopstore.checks import check_comers, is_number
from loopstore.days import check_meet, inside_by, layings_of
from loopstore.errors import NoLetter, NothingDone
from loopstore.stands import check_number


class Store:
    """A line that is at first empty, at tick 0."""

    def __init__(self, table, comers):
        check_comers(comers)
        self.by_table = table
        self.comers = comers
        # The letters in the line as triples (letter, tick, wait), and the waits of all that have come.
        self.line = []
        self.waits = []
        self.laid = []
        # For each tick the line ahead of it, and how many letters and layings there were.
        self.past = []

    def come(self, number):
        """Does a tick at which so many letters come; tells who goes out and who are turned away."""
        check_number(self.comers, number)
        tick = self.ticks()
        first = len(self.waits)
        kept = min(number, self.by_table.bound + 1 - len(self.line))
        come = [(first + at, tick, len(self.line) + at) for at in range(kept)]
        away = tuple(range(first + kept, first + number))
        line = self.line + come
        laid = self.laid_now(line)
        check_meet(laid)
        self.past.append((self.line, first, len(self.laid)))
        self.line = line[1:]
        self.waits.extend([wait for _, _, wait in come] + [None] * len(away))
        self.laid.extend(laid)
        return line[0][0] if line else None, away

    def laid_now(self, line):
        """The layings at this tick, ascending, of the letters in a line."""
        tick = self.ticks()
        return [laying for laying in self.layings_ever(line) if laying[0] == tick]

    def layings_ever(self, line):
        """All layings, at whatever tick, of the letters in a line."""
        found = []
        for letter, tick, wait in line:
            found.extend(layings_of(self.by_table, tick, letter, wait))
        return found

    def ticks(self):
        """The number of the tick that is about to be."""
        return len(self.past)

    def letters(self):
        """The letters in the line."""
        return [letter for letter, _, _ in self.line]

    def inside(self):
        """All triples (loop, letter, left): behind the last tick the letter is in the loop for so many ticks more."""
        return inside_by(self.by_table.loops, self.layings_ever(self.line), self.ticks() - 1)

    def wait_of(self, letter):
        """The wait that a letter had when it came, None if it was turned away."""
        if not is_number(letter, 0, len(self.waits) - 1):
            raise NoLetter()
        return self.waits[letter]

    def layings(self):
        """All layings until now, ascending."""
        return list(self.laid)

    def back(self):
        """Takes back the last tick that is not taken back."""
        if not self.past:
            raise NothingDone()
        self.line, letters, layings = self.past.pop()
        del self.waits[letters:]
        del self.laid[layings:]

    def copy(self):
        """Another store that goes on apart, and can go back likewise."""
        other = Store(self.by_table, self.comers)
        # No line is ever changed in place, so both may have this one.
        other.line = self.line
        other.waits = list(self.waits)
        other.laid = list(self.laid)
        other.past = list(self.past)
        return other

    def trying(self, action):
        """What the action returns for this store; all is put back to what it was, whatever the action does."""
        held = self.copy()
        try:
            return action(self)
        finally:
            self.line, self.waits, self.laid, self.past = held.line, held.waits, held.laid, held.past
