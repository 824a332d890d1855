"""Tables: the loops through which a letter goes, told by its wait as it comes."""

from loopstore.checks import MOST_BOUND, is_loops, is_row
from loopstore.errors import BadTable


def row_sum(loops, row):
    return sum([loops[loop] for loop in row])


class Table:
    """A row of loops for each wait from 1 to the bound."""

    def __init__(self, loops, rows):
        if not is_loops(loops):
            raise BadTable("loops", -1)
        if not isinstance(rows, tuple) or not 1 <= len(rows) <= MOST_BOUND:
            raise BadTable("rows", -1)
        for at, row in enumerate(rows):
            if not is_row(loops, row) or row_sum(loops, row) != at + 1:
                raise BadTable("rows", at)
        self.loops = loops
        self.rows = rows
        self.bound = len(rows)

    def __eq__(self, other):
        return isinstance(other, Table) and self.loops == other.loops and self.rows == other.rows


def row_entries(loops, row):
    """The entries (loop, gone, left) of a row whose sum is its wait, in the order of its items."""
    found = []
    gone = 0
    left = row_sum(loops, row)
    for loop in row:
        found.append((loop, gone, left))
        gone += loops[loop]
        left -= loops[loop]
    return found


def wait_row(table, wait):
    """The row of a wait, that of the wait 0 without any loops."""
    return table.rows[wait - 1] if wait > 0 else ()


def wait_entries(table, wait):
    """The entries of a letter with this wait, in the order of the items of its row."""
    return row_entries(table.loops, wait_row(table, wait))


def entries(table):
    """All entries (loop, gone, left), ascending."""
    found = []
    for row in table.rows:
        found.extend(row_entries(table.loops, row))
    return sorted(found)
