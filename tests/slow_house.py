"""What DOC.md says of houses, told slowly and word by word: room by room, row by row, cell by cell."""

import functools

from tests.oracle import Oracle, count_rows, needs, write
from tests.slow import rooms, slow_placed, top


@functools.lru_cache(None)
def known_of(function):
    """What is found by going all ways of the function."""
    return Oracle(function)


def slow_stays(house, g):
    known = known_of(house[g])
    told = []
    for row, item in enumerate(known.rows):
        if item[0] == "call":
            some = set(item[2]) | known.given[row] | (known.alive[row] - {item[3]})
            told.append((row, sorted(some)))
    return told


def slow_order(function, word):
    known = known_of(function)
    things = range(len(function[0]))
    if word == "great":
        return sorted(things, key=lambda t: (-function[0][t][0], t))
    if word == "long":
        return sorted(things, key=lambda t: (-sum(t in busy for busy in known.busy()), t))
    if word == "early":
        return sorted(things, key=lambda t: (known.stretch(t)[0] if known.stretch(t) else known.many, t))
    return list(things)


def slow_places(function, word):
    return slow_placed(function[0], known_of(function).clashes(), slow_order(function, word))


def common(borders):
    """The least number from 1 on that all of these divide, trying one behind the other."""
    number = 1
    while any(number % border for border in borders):
        number += 1
    return number


def calls_in(function):
    """The list of the pairs (row, called one)."""
    return [(row, item[1]) for row, item in enumerate(known_of(function).rows) if item[0] == "call"]


def slow_frames(house, word):
    told = []
    for g, function in enumerate(house):
        things, places = function[0], slow_places(function, word)
        called, told_rooms, tops = [], [], [top(things, places)]
        for (row, f), (same, some) in zip(calls_in(function), slow_stays(house, g)):
            room, place = told[f][:2], 0
            taken = set().union(*[rooms(things[t], places[t]) for t in some])
            while rooms(room, place) & taken:
                place += room[1]
            told_rooms.append((row, place))
            tops.append(place + room[0])
            called.append(room[1])
        border = common([border for size, border in things] + called)
        told.append((max(tops), border, places, told_rooms))
    return told


def slow_apart(house, word):
    borders = [frame[1] for frame in slow_frames(house, word)]
    heights = []
    for function in house:
        own = top(function[0], slow_places(function, word))
        tops = [own]
        for row, f in calls_in(function):
            place = own if heights[f] else 0
            while place % borders[f]:
                place += 1
            tops.append(place + heights[f])
        heights.append(max(tops))
    return heights


class Wrong(Exception):
    pass


class SlowDeep:
    """A run that writes marks into cells: a thing lies whole where all its cells hold the mark of its last write."""

    def __init__(self, house, some, choices):
        self.house, self.some, self.feed = house, some, iter(choices)
        self.cells, self.layers, self.many, self.marks = {}, [], 0, 0

    def told(self):
        try:
            self.function(len(self.house) - 1, 0)
        except Wrong as wrong:
            return ("wrong", self.many) + wrong.args
        return ("right", self.many)

    def cells_of(self, layer, t):
        g, begin, marks, given = layer
        return rooms(self.house[g][0][t], begin + self.some[g][2][t])

    def look(self, depth, t):
        layer = self.layers[depth]
        if t not in layer[2] or any(self.cells.get(cell) != layer[2][t] for cell in self.cells_of(layer, t)):
            raise Wrong(depth, t)

    def look_at_given(self):
        for depth in range(len(self.layers) - 1, -1, -1):
            for t in sorted(self.layers[depth][3]):
                self.look(depth, t)

    def function(self, g, begin):
        self.layers.append((g, begin, {}, set()))
        self.items(self.house[g][1], 0)
        self.layers.pop()

    def items(self, items, first):
        for item in items:
            if item[0] == "either":
                side = next(self.feed, 0)
                self.items(item[1 + side], first + side * count_rows(item[1]))
            elif item[0] == "round":
                while next(self.feed, 0):
                    self.items(item[1], first)
            else:
                self.row(item, first)
            first += count_rows((item,))

    def row(self, item, row):
        layer = self.layers[-1]
        self.many += 1
        for t in needs(item):
            self.look(len(self.layers) - 1, t)
        if item[0] == "give":
            layer[3].add(item[1])
        if item[0] == "back":
            layer[3].remove(item[1])
        if item[0] == "call":
            self.look_at_given()
            self.function(item[1], layer[1] + dict(self.some[layer[0]][3])[row])
        if write(item) is not None:
            self.marks += 1
            layer[2][write(item)] = self.marks
            self.cells.update({cell: self.marks for cell in self.cells_of(layer, write(item))})
        self.look_at_given()


def slow_deep(house, some, choices):
    return SlowDeep(house, some, choices).told()
