"""Houses: functions that call those ahead of them, and what stays during a call [12]."""

from frameshare.flows import given_behind, is_function, rows_of
from frameshare.lives import alive_behind


def is_house(thing):
    """Whether it's a tuple of functions, one at least, each of which calls those ahead of it alone."""
    if not isinstance(thing, tuple) or len(thing) == 0:
        return False
    return all([is_function(function, ahead) for ahead, function in enumerate(thing)])


def calls_of(function):
    """The list, for each call that stands in the function, of the pair (row, number of the called one)."""
    return [(row, item[1]) for row, item in enumerate(rows_of(function)) if item[0] == "call"]


def stays(house, g):
    """The list, for each call that stands in the function g, of the pair (row, rising list of the things that stay)."""
    function = house[g]
    rows = rows_of(function)
    given = given_behind(function)
    alive = alive_behind(function)
    told = []
    for row, f in calls_of(function):
        reads, write = rows[row][2:]
        # What the call writes is alive behind it by that write alone, unless it's read or handed out as well.
        others = [t for t in alive[row] if t != write]
        told.append((row, sorted(set([*reads, *given[row], *others]))))
    return told
