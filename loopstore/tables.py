"""Tables: the loops through which a letter goes, told by its wait as it comes."""

from loopstore.checks import MOST_BOUND, is_loops, is_row
from loopstore.errors import BadTable


def row_sum(loops, row):
    return sum([loops[loop] for loop in row])


class Table:
    """A row of loops for each wait from 1 to the bound."""

    def __init__(self, loops, rows):
        if not is_loops(loops):
            raise BadTable("loops", -1)
        if not isinstance(rows, tuple) or not 1 <= len(rows) <= MOST_BOUND:
            raise BadTable("rows", -1)
        for at, row in enumerate(rows):
            if not is_row(loops, row) or row_sum(loops, row) != at + 1:
                raise BadTable("rows", at)
        self.loops = loops
        self.rows = rows
        self.bound = len(rows)

    def __eq__(self, other):
        return isinstance(other, Table) and self.loops == other.loops and self.rows == other.rows


def enterings(table, wait):
    """The pairs (gone, loop) of a letter with this wait: so many ticks behind its coming it enters the loop."""
    found = []
    if wait > 0:
        gone = 0
        for loop in table.rows[wait - 1]:
            found.append((gone, loop))
            gone += table.loops[loop]
    return found


def entries(table):
    """All entries (loop, gone, left), ascending."""
    found = []
    for wait in range(1, table.bound + 1):
        found.extend([(loop, gone, wait - gone) for gone, loop in enterings(table, wait)])
    return sorted(found)
