"""Texts: tables, comings and days written line by line, and read again."""

from loopstore.checks import are_integers, check_comings
from loopstore.errors import BadText, NoDay
from loopstore.tables import Table

FIGURES = "0123456789"
MOST_FIGURES = 9
TEXT_COMERS = 4
TEXT_FIGURES = "01234"
MOST_SIGNS = 400


def with_blanks(numbers):
    return " ".join([str(number) for number in numbers])


def table_text(table):
    """The text of a table: its lengths, then the row of each wait."""
    found = f"loops {with_blanks(table.loops)}\n"
    for at, row in enumerate(table.rows):
        found += f"{at + 1}: {with_blanks(row)}\n"
    return found


def comings_text(comings):
    """The text of comings for 4 comers: their figures."""
    check_comings(TEXT_COMERS, comings)
    return "".join([str(number) for number in comings])


def is_laying(thing):
    return are_integers(thing, 3) and all([number >= 0 for number in thing])


def day_text(thing):
    """The text of a list or tuple of layings, a line for each."""
    if not isinstance(thing, (list, tuple)) or not all([is_laying(item) for item in thing]):
        raise NoDay()
    return "".join([f"{with_blanks(laying)}\n" for laying in thing])


def are_signs(text, signs):
    """Whether a string has only such signs."""
    return all([sign in signs for sign in text])


def is_numeral(word):
    """Whether a word is a decimal number with few enough figures and without needless zeros."""
    if not 1 <= len(word) <= MOST_FIGURES or not are_signs(word, FIGURES):
        return False
    return word == "0" or word[0] != "0"


def numbers_of(words):
    """The tuple of the numbers that are the words, or None if some word is none."""
    if not all([is_numeral(word) for word in words]):
        return None
    return tuple([int(word) for word in words])


def lines_of(text):
    """The list of all lines of a text that are closed, and what stands behind the last line feed."""
    if not isinstance(text, str):
        raise BadText(0)
    parts = text.split("\n")
    return parts[:-1], parts[-1]


def numbers_behind(head, line):
    """The numbers behind the first word of a line, or None if the line is not of this form."""
    words = line.split(" ")
    if words[0] != head or len(words) == 1:
        return None
    return numbers_of(words[1:])


def read_table(text):
    """The table of a text."""
    closed_lines, rest = lines_of(text)
    found = []
    for at, line in enumerate(closed_lines):
        numbers = numbers_behind("loops" if at == 0 else f"{at}:", line)
        if numbers is None:
            raise BadText(at + 1)
        found.append(numbers)
    if rest or len(found) < 2:
        raise BadText(len(found) + 1)
    return Table(found[0], tuple(found[1:]))


def read_comings(text):
    """The comings of a text."""
    if not isinstance(text, str):
        raise BadText(0)
    if len(text) > MOST_SIGNS or not are_signs(text, TEXT_FIGURES):
        raise BadText(1)
    return tuple([int(sign) for sign in text])


def read_day(text):
    """The layings of a text, in the order of its lines."""
    closed_lines, rest = lines_of(text)
    found = []
    for at, line in enumerate(closed_lines):
        numbers = numbers_of(line.split(" "))
        if numbers is None or len(numbers) != 3:
            raise BadText(at + 1)
        found.append(numbers)
    if rest:
        raise BadText(len(found) + 1)
    return tuple(found)
