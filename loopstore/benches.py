"""Benches: places where a table is made row by row, and rows are taken back."""

from loopstore.checks import MOST_BOUND, check_comers, check_loops, is_number
from loopstore.errors import NothingDone, NoRow, NoWait
from loopstore.search import befriended, check_row, rows_for
from loopstore.tables import Table, row_sum


class Bench:
    """Rows that are put for waits, at first none."""

    def __init__(self, loops, comers):
        check_loops(loops)
        check_comers(comers)
        self.loops = loops
        self.comers = comers
        self.rows = {}
        # For each put and strike the wait and the row that it had ahead, or None.
        self.past = []

    def put(self, row):
        """Puts a row for its sum, in the place of an elder one."""
        check_row(self.loops, row)
        wait = row_sum(self.loops, row)
        if not 1 <= wait <= MOST_BOUND:
            raise NoRow()
        self.past.append((wait, self.rows.get(wait)))
        self.rows[wait] = row

    def strike(self, wait):
        """Takes the row of a wait away."""
        if not is_number(wait, 1, MOST_BOUND) or wait not in self.rows:
            raise NoWait()
        self.past.append((wait, self.rows.pop(wait)))

    def kept_rows(self):
        """The dict from waits to their rows."""
        return dict(self.rows)

    def clashes(self):
        """All pairs of waits, the lesser one first, whose rows are no friends, ascending."""
        found = []
        for wait in sorted(self.rows):
            for other in sorted(self.rows):
                if wait <= other and not befriended(self.loops, self.comers, self.rows[wait], self.rows[other]):
                    found.append((wait, other))
        return found

    def free_rows(self, wait):
        """All rows of unlike loops for the wait that are friends of all rows that are put for other waits."""
        fitting = rows_for(self.loops, wait)
        others = [self.rows[other] for other in self.rows if other != wait]
        return [row for row in fitting if all([befriended(self.loops, self.comers, row, other) for other in others])]

    def table(self):
        """The table of the rows for 1 up to the greatest bound up to which all waits have one; None without any."""
        rows = []
        while len(rows) + 1 in self.rows:
            rows.append(self.rows[len(rows) + 1])
        return Table(self.loops, tuple(rows)) if rows else None

    def back(self):
        """Takes back the last put or strike that is not taken back."""
        if not self.past:
            raise NothingDone()
        wait, elder = self.past.pop()
        if elder is None:
            del self.rows[wait]
        else:
            self.rows[wait] = elder

    def depth(self):
        """How many puts and strikes can be taken back."""
        return len(self.past)

    def copy(self):
        """Another bench that goes on apart, and can go back likewise."""
        other = Bench(self.loops, self.comers)
        other.rows = dict(self.rows)
        other.past = list(self.past)
        return other

    def trying(self, action):
        """What the action returns for this bench; all is put back to what it was, whatever the action does."""
        held = self.copy()
        try:
            return action(self)
        finally:
            self.rows, self.past = held.rows, held.past
