"""A runner through frames within one another, that marks what lies whole [13]."""

from frameshare.flows import given_behind
from frameshare.items import needs_of, write_of
from frameshare.runner import first_broken
from frameshare.steps import stands_of, steps_of
from frameshare.things import lie_over
from frameshare.ways import Choices


class Route:
    """What a run needs of a function and its frame, whoever asks for it."""

    def __init__(self, function, frame):
        self.things = function[0]
        self.steps = steps_of(function)
        # The number of the row that is done at each step at which one is.
        self.numbers = {at: row for row, at in enumerate(stands_of(self.steps))}
        self.handed = given_behind(function)
        self.spots = frame[2]
        self.rooms = {row: place for row, place in frame[3]}


class Layer:
    """A function that is being gone, with its things from its begin on."""

    def __init__(self, route, begin):
        self.route = route
        self.begin = begin
        self.spots = [begin + place for place in route.spots]
        self.whole = [False for thing in route.things]
        # The things that are handed out by now.
        self.out = []


class Run:
    """A run through a house: its layers are the last function, the one that it called, and so on."""

    def __init__(self, house, some, choices):
        self.routes = [Route(function, frame) for function, frame in zip(house, some)]
        self.choices = Choices(choices)
        self.layers = []
        self.many = 0


def first_out_broken(run):
    """The pair (depth, t) of the first thing that is handed out and doesn't lie whole, None where all do."""
    for depth in reversed(range(len(run.layers))):
        layer = run.layers[depth]
        broken = first_broken(layer.out, layer.whole)
        if broken is not None:
            return depth, broken
    return None


def write_thing(run, t):
    """Mark that the innermost function's thing is written: all that lies over it, of askers too, isn't whole."""
    inmost = run.layers[-1]
    thing, spot = inmost.route.things[t], inmost.spots[t]
    for layer in run.layers:
        for u, other in enumerate(layer.route.things):
            if lie_over(thing, spot, other, layer.spots[u]):
                layer.whole[u] = False
    inmost.whole[t] = True


def go_call(run, f, place):
    """Go the function that the innermost one calls, in the room at the place, and tell as go_function."""
    found = first_out_broken(run)
    if found is None:
        found = go_function(run, f, run.layers[-1].begin + place)
    return found


def go_row(run, row, item):
    """Do one row of the innermost function, and tell as go_function."""
    layer = run.layers[-1]
    run.many += 1
    broken = first_broken(needs_of(item), layer.whole)
    if broken is not None:
        return len(run.layers) - 1, broken
    layer.out = layer.route.handed[row]
    if item[0] == "call":
        found = go_call(run, item[1], layer.route.rooms[row])
        if found is not None:
            return found
    if write_of(item) is not None:
        write_thing(run, write_of(item))
    return first_out_broken(run)


def go_function(run, f, begin):
    """Go a function from begin to end: None, or the pair (depth, t) of the first thing found not to lie whole."""
    route = run.routes[f]
    run.layers.append(Layer(route, begin))
    at = 0
    while at < len(route.steps):
        item, nexts = route.steps[at]
        if item is not None:
            found = go_row(run, route.numbers[at], item)
            if found is not None:
                return found
        at = nexts[0] if len(nexts) == 1 else nexts[run.choices.take()]
    run.layers.pop()
    return None


def deep(house, some, choices):
    """("right", many), or ("wrong", many, depth, t): many rows were done as t, of a layer so deep, was found broken."""
    run = Run(house, some, choices)
    found = go_function(run, len(house) - 1, 0)
    if found is None:
        return ("right", run.many)
    depth, t = found
    return ("wrong", run.many, depth, t)
