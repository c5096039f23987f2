"""What DOC.md says of programs, told slowly and word by word: by going all ways.

A run is a pair of the choices that are taken and the marks that are met: rows as (number, item), and "in" and "out"
around each going of an either's side or a round's items. Each round is gone at most a told number of times at each
coming to it; twice is enough for all that is told of rows, as the goings between two rows may be left out.
"""

IN, OUT = "in", "out"


def count_rows(items):
    many = 0
    for item in items:
        if item[0] == "either":
            many += count_rows(item[1]) + count_rows(item[2])
        elif item[0] == "round":
            many += count_rows(item[1])
        else:
            many += 1
    return many


def runs(items, first=0, most=2):
    """All runs through the items, the first of whose rows has this number."""
    told = [([], [])]
    for item in items:
        told = [(a + c, b + d) for a, b in told for c, d in runs_of_item(item, first, most)]
        first += count_rows((item,))
    return told


def runs_of_item(item, first, most):
    if item[0] == "either":
        sides = ((0, item[1], first), (1, item[2], first + count_rows(item[1])))
        return [([choice] + a, [IN] + b + [OUT]) for choice, side, begin in sides for a, b in runs(side, begin, most)]
    if item[0] != "round":
        return [([], [(first, item)])]
    told = []
    goings = [([], [])]
    for count in range(most + 1):
        told += [(a + [0], b) for a, b in goings]
        if count < most:
            inner = runs(item[1], first, most)
            goings = [(a + [1] + c, b + [IN] + d + [OUT]) for a, b in goings for c, d in inner]
    return told


def needs(item):
    """What an item reads or gives."""
    return {"row": lambda: item[1], "call": lambda: item[2], "give": lambda: (item[1],)}.get(item[0], lambda: ())()


def write(item):
    return item[-1] if item[0] in ("row", "call") else None


def run_is_right(marks):
    """Whether one run reads, gives and takes back as told, with the same handed out at each in and its out."""
    written, given, ins = set(), set(), []
    for mark in marks:
        if mark == IN:
            ins.append(set(given))
        elif mark == OUT:
            if ins.pop() != given:
                return False
        else:
            item = mark[1]
            if not set(needs(item)) <= written:
                return False
            if item[0] == "give":
                if item[1] in given:
                    return False
                given.add(item[1])
            if item[0] == "back":
                if item[1] not in given:
                    return False
                given.remove(item[1])
            written.add(write(item))
    return True


def is_right(items):
    """Whether the items, made as told, are right on each way."""
    return all(run_is_right(marks) for choices, marks in runs(items))


def ways(items, most=2):
    """All ways, as tuples of pairs (number, item), each once."""
    told = {}
    for choices, marks in runs(items, 0, most):
        way = tuple(mark for mark in marks if mark not in (IN, OUT))
        told[tuple(row for row, item in way)] = way
    return list(told.values())


class Oracle:
    """All that is told of a program's rows, found by going all its ways."""

    def __init__(self, program):
        self.things, self.items = program
        self.many = count_rows(self.items)
        self.ways = ways(self.items)
        self.rows = self.in_order()
        self.firsts = sorted({way[0][0] for way in self.ways if way})
        self.lasts = sorted({way[-1][0] for way in self.ways if way})
        self.nexts = [set() for row in range(self.many)]
        self.written = [set(range(len(self.things))) for row in range(self.many)]
        self.given = [None] * self.many
        self.alive = [set() for row in range(self.many)]
        for way in self.ways:
            self.look_along(way)

    def in_order(self):
        found = {row: item for way in self.ways for row, item in way}
        return [found[row] for row in range(self.many)]

    def look_along(self, way):
        written, given = set(), set()
        for at, (row, item) in enumerate(way):
            self.written[row] &= written
            if write(item) is not None:
                written.add(write(item))
            if item[0] == "give":
                given.add(item[1])
            if item[0] == "back":
                given.remove(item[1])
            self.given[row] = set(given)
            self.alive[row] |= given
            if at + 1 < len(way):
                self.nexts[row].add(way[at + 1][0])
            for t in range(len(self.things)):
                if self.is_needed(t, way[at + 1:]):
                    self.alive[row].add(t)

    def is_needed(self, t, way):
        """Whether the thing is read or given ahead of its next write."""
        for row, item in way:
            if t in needs(item):
                return True
            if write(item) == t:
                return False
        return False

    def busy(self):
        return [alive | ({write(item)} - {None}) for alive, item in zip(self.alive, self.rows)]

    def clashes(self):
        many = range(len(self.things))
        return [(t, u) for t in many for u in many if t < u and any({t, u} <= busy for busy in self.busy())]

    def stretch(self, t):
        rows = [row for row, busy in enumerate(self.busy()) if t in busy]
        return (min(rows), max(rows)) if rows else None

    def in_one_stretch(self):
        for t in range(len(self.things)):
            stretch = self.stretch(t)
            if stretch is None or not all(t in self.busy()[row] for row in range(stretch[0], stretch[1] + 1)):
                return False
        return True
