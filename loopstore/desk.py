"""The desk: tables under names, led by lines."""

from loopstore.clashes import safe
from loopstore.days import day
from loopstore.doubling import doubling_table
from loopstore.errors import NoLine, NoName, NothingDone
from loopstore.games import greatest_kept
from loopstore.meetings import meeting
from loopstore.rates import share
from loopstore.search import greatest_table
from loopstore.sizes import fewest, reach
from loopstore.texts import FIGURES, are_signs, comings_text, numbers_of, read_table, table_text

MOST_LETTERS = 8
LETTERS = "abcdefghijklmnopqrstuvwxyz"
# The first word of each line, and what its other words are.
FORMS = {
    "table": ("name", "text"),
    "doubling": ("name", "lengths"),
    "drop": ("name",),
    "names": (),
    "undo": (),
    "show": ("name",),
    "safe": ("name", "figure"),
    "meeting": ("name", "figure"),
    "day": ("name", "figure", "comings"),
    "share": ("name", "figure", "number"),
    "reach": ("lengths",),
    "kept": ("lengths", "figure"),
    "tables": ("lengths", "figure"),
    "fewest": ("number",),
}


def read_name(word):
    if not 1 <= len(word) <= MOST_LETTERS or not are_signs(word, LETTERS):
        raise NoLine()
    return word


def read_text(word):
    if word == "":
        raise NoLine()
    return word.replace("|", "\n")


def read_lengths(word):
    numbers = numbers_of(word.split(","))
    if numbers is None:
        raise NoLine()
    return numbers


def read_number(word):
    numbers = numbers_of([word])
    if numbers is None:
        raise NoLine()
    return numbers[0]


def read_figure(word):
    if len(word) != 1:
        raise NoLine()
    return read_number(word)


def read_figures(word):
    if word == "-":
        return ()
    if word == "" or not are_signs(word, FIGURES):
        raise NoLine()
    return tuple([int(sign) for sign in word])


READERS = {
    "name": read_name, "text": read_text, "lengths": read_lengths, "figure": read_figure, "number": read_number,
    "comings": read_figures,
}


def read_word(kind, word):
    reader = READERS[kind]
    return reader(word)


def read_line(line):
    """The first word of a line, and the list of what its other words tell."""
    if not isinstance(line, str) or "\n" in line:
        raise NoLine()
    head, _, rest = line.partition(" ")
    words = line.split(" ")[1:]
    if head == "table":
        # A text may have blanks in it.
        name, _, text = rest.partition(" ")
        words = [name, text]
    kinds = FORMS.get(head)
    if kinds is None or len(words) != len(kinds):
        raise NoLine()
    return head, [read_word(kind, word) for kind, word in zip(kinds, words)]


def tell_text(table):
    return table_text(table).replace("\n", "|")


def tell_safe(table, comers):
    return "safe" if safe(table, comers) else "clash"


def tell_meeting(table, comers):
    found = meeting(table, comers)
    return "none" if found is None else comings_text(found[0])


def tell_day(table, comers, comings):
    layings = day(table, comers, comings)
    return " ".join([f"{tick}:{letter}:{loop}" for tick, letter, loop in layings]) or "none"


def tell_share(table, comers, loop):
    fraction, _ = share(table, comers, loop)
    return f"{fraction[0]}/{fraction[1]}"


def tell_reach(loops):
    return str(reach(loops))


def tell_kept(loops, comers):
    return str(greatest_kept(loops, comers))


def tell_tables(loops, comers):
    return str(greatest_table(loops, comers))


def tell_fewest(bound):
    return str(fewest(bound))


ANSWERS = {
    "show": tell_text, "safe": tell_safe, "meeting": tell_meeting, "day": tell_day, "share": tell_share,
    "reach": tell_reach, "kept": tell_kept, "tables": tell_tables, "fewest": tell_fewest,
}


class Desk:
    """Tables that are kept under names, at first none."""

    def __init__(self):
        self.tables = {}
        # For each line that can be taken back the name and the table that stood under it, or None.
        self.past = []

    def tell(self, line):
        """Does what a line says and returns the answer."""
        head, told = read_line(line)
        if head == "names":
            return " ".join(sorted(self.tables)) or "none"
        if head == "undo":
            return self.undo()
        if head == "table":
            return self.change(told[0], read_table(told[1]))
        if head == "doubling":
            return self.change(told[0], doubling_table(told[1]))
        if FORMS[head][0] == "name" and told[0] not in self.tables:
            raise NoName(told[0])
        if head == "drop":
            return self.change(told[0], None)
        if FORMS[head][0] == "name":
            told[0] = self.tables[told[0]]
        answer = ANSWERS[head]
        return answer(*told)

    def change(self, name, table):
        """Keeps a table under a name, or none, so that it can be taken back."""
        self.past.append((name, self.tables.get(name)))
        self.keep(name, table)
        return "ok"

    def keep(self, name, table):
        if table is None:
            del self.tables[name]
        else:
            self.tables[name] = table

    def undo(self):
        """Takes back the last change that is not taken back."""
        if not self.past:
            raise NothingDone()
        name, elder = self.past.pop()
        self.keep(name, elder)
        return "ok"

    def undoable(self):
        """How many lines can be taken back."""
        return len(self.past)
