"""What several tests need: things of wrong kinds, and a line that is led letter by letter."""

from loopstore.errors import BadTable, LoopError, NoComers, TooMany
from loopstore.tables import Table

T = Table((1, 2), ((0,), (1,), (0, 1)))
U = Table((1, 2), ((0,), (1,), (1, 0)))
V = Table((1, 1, 3), ((1,), (0, 1), (2,), (0, 2), (1, 0, 2)))
LONGEST = Table((1,), tuple((0,) * many for many in range(1, 61)))


def nested(kind, depth, inmost):
    thing = inmost
    for _ in range(depth):
        thing = kind([thing])
    return thing


def odd_things():
    """Things of many kinds, none of them an integer, a list or a tuple that could be right."""
    return [
        None, True, False, "", "2", "abc", b"", b"\x02", bytearray(b"\x02"), {}, {2: 2}, {(1, 2): (3,)},
        range(3), iter([1, 2]), object(), Ellipsis, NotImplemented, len, int, Table, slice(1, 2), memoryview(b"ab"),
        lambda: 2, (number for number in [1, 2]), T, LoopError(), NoComers(), BadTable("loops", -1), ValueError(2),
        nested(list, 40, 1), nested(tuple, 40, 1), nested(lambda inner: {0: inner[0]}, 40, T),
        [None] * 9999, (None,) * 9999,
    ]


def odd_numbers():
    """Things that are no integers within any of the document's limits."""
    return odd_things() + [[], (), [2], (2,), -1, -(10 ** 59), 10 ** 59, 10 ** 60 - 1]


def odd_tuples():
    """Things that are no tuple, or one of wrong things."""
    return odd_things() + [
        [], [0], [(0, 1)], [1, 1], 0, 1, 2, -1, 10 ** 59, (None,), (True,), (False,), ("1",), (b"1",), ([],), ((),),
        ({},), (T,), (1, None), (1, True), (1, [1]), (10 ** 59,), (-1,), (NoComers(),), (0, (0, (0,))),
    ]


def wrong_comers():
    return odd_numbers() + [0, 1, 5]


def wrong_bounds():
    return odd_numbers() + [0, 61]


def wrong_loops():
    return odd_tuples() + [(), (1,) * 9, (0,), (41,), (1, 41), (1, 0), (1, True), [1, 2], (1, "2"), (T,), b"\x01", (1, (1,))]


def wrong_numbers(comers):
    """Things that are no number of letters that come."""
    return odd_numbers() + [comers + 1]


def assert_errors(case, function, right, steps):
    """A step is (place, error, things): each of these things at this place raises just this error.

    So it does, too, if all arguments at the places of later steps are wrong.
    """
    function(*right)
    for step, (place, error, things) in enumerate(steps):
        later = [at for at, _, _ in steps[step + 1:]]
        for thing in things:
            args = [thing if at == place else arg for at, arg in enumerate(right)]
            worse = [None if at in later else arg for at, arg in enumerate(args)]
            for tried in (args, worse):
                with case.subTest(error=error.__name__, thing=repr(thing)[:40]):
                    with case.assertRaises(error) as caught:
                        function(*tried)
                    case.assertIs(type(caught.exception), error)


def assert_too_many(case, most, function, *args):
    with case.assertRaises(TooMany) as caught:
        function(*args)
    case.assertEqual(caught.exception.most, most)


def led_line(bound, comings):
    """The letters, led by a line that is a list: dicts with tick, turn, wait and out."""
    letters = []
    line = []
    tick = 0
    while tick < len(comings) or line:
        for turn in range(comings[tick] if tick < len(comings) else 0):
            letter = {"tick": tick, "turn": turn + 1, "wait": None, "out": None}
            letters.append(letter)
            if len(line) <= bound:
                letter["wait"] = len(line)
                line.append(letter)
        if line:
            line.pop(0)["out"] = tick
        tick += 1
    return letters


def led_day(table, comings):
    """All layings by a table, each letter led from loop to loop."""
    found = []
    for number, letter in enumerate(led_line(table.bound, comings)):
        tick = letter["tick"]
        if letter["wait"]:
            for loop in table.rows[letter["wait"] - 1]:
                found.append((tick, number, loop))
                tick += table.loops[loop]
            assert tick == letter["out"]
    return sorted(found)


def meets_of(layings):
    """All pairs (tick, loop) that two of the layings have."""
    places = [(tick, loop) for tick, letter, loop in layings]
    return sorted(place for place in set(places) if places.count(place) > 1)


def random_row(chance, loops, wait):
    """A row with the sum, perhaps with loops several times; None if chance finds none."""
    row = []
    while wait > 0:
        fitting = [loop for loop in range(len(loops)) if loops[loop] <= wait]
        if not fitting or len(row) == 60:
            return None
        row.append(chance.choice(fitting))
        wait -= loops[row[-1]]
    return tuple(row)


def random_table(chance, loops, bound):
    rows = []
    while len(rows) < bound:
        row = random_row(chance, loops, len(rows) + 1)
        if row is not None:
            rows.append(row)
        elif loops.count(1) == 0:
            break
    return Table(loops, tuple(rows)) if rows else None


def random_comings(chance, comers, ticks):
    most = chance.randint(1, comers)
    return tuple(chance.randint(0, most) for _ in range(ticks))
