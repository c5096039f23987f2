"""Right programs to ask of, small enough for all their ways to be gone."""


class Dice:
    """Numbers that look like chance and are the same at each run, whatever the Python."""

    def __init__(self, seed):
        self.state = seed * 2654435761 % 2 ** 32 + 1

    def below(self, many):
        self.state = (self.state * 1664525 + 1013904223) % 2 ** 32
        return (self.state >> 8) % many

    def pick(self, some):
        return sorted(some)[self.below(len(some))]

    def some(self, things):
        """Some of the things, at most three, in any order."""
        left, told = sorted(things), []
        for count in range(self.below(min(3, len(left)) + 1)):
            told.append(left.pop(self.below(len(left))))
        return tuple(told)


class Maker:
    """Makes a right program of so many things, that calls so many functions ahead of it."""

    def __init__(self, dice, many, calls):
        self.dice, self.many, self.calls = dice, many, calls
        self.written, self.given = set(), set()

    def items(self, count, depth):
        return tuple(self.item(depth) for at in range(count))

    def item(self, depth):
        kind = self.dice.below(9 if depth > 0 else 6)
        if kind >= 7:
            return self.either(depth - 1)
        if kind == 6:
            return ("round", self.side(depth - 1, set(self.written)))
        if kind == 5 and self.written - self.given:
            return self.give(self.dice.pick(self.written - self.given))
        if kind == 4 and self.given:
            return self.back(self.dice.pick(self.given))
        return self.row()

    def row(self):
        reads = self.dice.some(self.written)
        write = self.dice.below(self.many) if self.many and self.dice.below(4) else None
        self.written |= {write} - {None}
        if self.calls and self.dice.below(2):
            return ("call", self.dice.below(self.calls), reads, write)
        return ("row", reads, write)

    def give(self, t):
        self.given.add(t)
        return ("give", t)

    def back(self, t):
        self.given.remove(t)
        return ("back", t)

    def either(self, depth):
        ahead = set(self.written)
        one = self.side(depth, ahead)
        behind = self.behind
        other = self.side(depth, ahead)
        self.written = behind & self.behind
        return ("either", one, other)

    def side(self, depth, ahead):
        """Items that hand out at their end what was ahead; what they write is told by behind."""
        given = set(self.given)
        self.written = set(ahead)
        items = self.items(self.dice.below(3), depth)
        items += tuple(self.back(t) for t in sorted(self.given - given))
        items += tuple(self.give(t) for t in sorted(given - self.given))
        self.behind, self.written = self.written, set(ahead)
        return items


def made_program(seed, calls=False):
    dice = Dice(seed)
    many = dice.below(5)
    things = tuple((1 + dice.below(9), 1 + dice.below(4)) for t in range(many))
    return things, Maker(dice, many, 3 if calls else 0).items(1 + dice.below(7), 2)


def made_house(seed, most_functions=4, most_rows=5):
    """A house of some functions, each of which calls those ahead of it."""
    dice = Dice(seed)
    told = []
    for ahead in range(1 + dice.below(most_functions)):
        many = dice.below(5)
        things = tuple((1 + dice.below(9), 1 + dice.below(4)) for t in range(many))
        told.append((things, Maker(dice, many, ahead).items(dice.below(most_rows + 1), 2)))
    return tuple(told)


def made_houses(count, most_functions=4, most_rows=5):
    return [made_house(seed, most_functions, most_rows) for seed in range(1, count + 1)]


def made_frame(seed, most_things, most_size, most_border):
    """Things and pairs of them: all, some or none."""
    dice = Dice(seed)
    things = tuple((1 + dice.below(most_size), 1 + dice.below(most_border)) for t in range(dice.below(most_things + 1)))
    share = dice.below(5)
    return things, [pair for pair in all_pairs(len(things)) if dice.below(4) < share]


def made_frames(count, most_things, most_size=6, most_border=4):
    return [made_frame(seed, most_things, most_size, most_border) for seed in range(1, count + 1)]


def all_pairs(many):
    return [(t, u) for t in range(many) for u in range(t + 1, many)]


def renumbered(items, numbers):
    """The items with other numbers for their things."""
    told = []
    for item in items:
        word, rest = item[0], item[1:]
        if word in ("either", "round"):
            told.append((word,) + tuple(renumbered(side, numbers) for side in rest))
        elif word in ("give", "back"):
            told.append((word, numbers[rest[0]]))
        else:
            reads, write = tuple(numbers[t] for t in rest[-2]), rest[-1]
            told.append((word,) + rest[:-2] + (reads, None if write is None else numbers[write]))
    return tuple(told)


def spread(program):
    """The program among twenty things, its own ones far apart: Python's sets don't rise by themselves then."""
    numbers = (9, 1, 16, 8, 3)
    return tuple((1 + t, 1) for t in range(20)), renumbered(program[1], numbers)


def made_programs(count, calls=False, most_runs=400):
    """So many programs that don't have too many runs."""
    told, seed = [], 0
    while len(told) < count:
        seed += 1
        program = made_program(seed, calls)
        if count_runs(program[1]) <= most_runs:
            told.append(program)
    return told


def count_runs(items, most=2):
    """How many runs the items have, without going them."""
    many = 1
    for item in items:
        if item[0] == "either":
            many *= count_runs(item[1], most) + count_runs(item[2], most)
        elif item[0] == "round":
            many *= sum(count_runs(item[1], most) ** times for times in range(most + 1))
    return many


def with_rows_for_calls(program):
    """The program with a row, with its reads and write, for each call."""
    return program[0], tuple(plain_item(item) for item in program[1])


def plain_item(item):
    if item[0] == "call":
        return ("row", item[2], item[3])
    if item[0] in ("either", "round"):
        return (item[0],) + tuple(tuple(plain_item(inner) for inner in side) for side in item[1:])
    return item


WRITE_A, WRITE_B, WRITE_C = ("row", (), 0), ("row", (), 1), ("row", (), 2)
READ_A, READ_B, READ_C = ("row", (0,), None), ("row", (1,), None), ("row", (2,), None)
QUIET = ("row", (), None)

EMPTY = ((), ())
LINE = (((4, 4), (8, 8), (2, 2)), (WRITE_A, ("row", (0,), 1), ("row", (1, 0), 2), READ_C))
FORKED = (
    ((4, 4), (8, 8)),
    (WRITE_A, ("either", (WRITE_B, READ_B), (READ_A,)), ("either", (), (READ_A,)), ("row", (0,), 1)),
)
# Rows: 0 writes A; in the round 1 reads A, 2 writes B, 3 reads B and writes A; 4 reads A.
LOOPED = (((4, 4), (8, 8)), (WRITE_A, ("round", (READ_A, WRITE_B, ("row", (1,), 0))), READ_A))
HANDED = (
    ((4, 4), (8, 8), (2, 2)),
    (WRITE_A, ("give", 0), WRITE_B, ("round", (("back", 0), READ_B, ("give", 0))), WRITE_C, ("back", 0), READ_C),
)
CALLING = (
    ((4, 4), (8, 8), (2, 2)),
    (WRITE_A, ("call", 0, (0,), 1), ("round", (("call", 1, (1, 0), 2), ("give", 2), ("back", 2))),
     ("either", (("call", 0, (), 2), READ_C), (("call", 2, (1,), None),))),
)
HOLLOW = (
    ((1, 1),),
    (("round", ()), ("either", (), ()), ("round", (("either", (QUIET,), ()), ("round", (WRITE_A,)))),),
)
SAMPLES = (EMPTY, LINE, FORKED, LOOPED, HANDED, HOLLOW)
