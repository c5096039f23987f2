"""Places by told rules, and roofs for them [7]."""

from frameshare.errors import BadWord
from frameshare.lives import busy_behind, clashes, rows_with
from frameshare.placings import least_place, partners, rooms_at
from frameshare.things import rounded

WORDS = ("told", "great", "long", "early")


def ranks_by(program, word):
    """The list, for each thing, of a number that is the less the earlier the thing comes by the word."""
    things = program[0]
    if word == "told":
        return [0 for thing in things]
    if word == "great":
        return [-size for size, border in things]
    busy = busy_behind(program)
    rows = [rows_with(t, busy) for t in range(len(things))]
    if word == "long":
        return [-len(some) for some in rows]
    # Those that never are busy come behind the last row.
    return [min(some, default=len(busy)) for some in rows]


def order_by(program, word):
    """The list of all things in the order of the word; refused with BadWord of another word."""
    if word not in WORDS:
        raise BadWord("no such rule")
    ranks = ranks_by(program, word)
    return sorted(range(len(ranks)), key=lambda t: (ranks[t], t))


def placed(things, pairs, order):
    """The places that come where each thing, in this order, is put to the least place that is left to it."""
    near = partners(things, pairs)
    places = [None for thing in things]
    for t in order:
        taken = [rooms_at(things[u], places[u]) for u in near[t] if places[u] is not None]
        places[t] = least_place(things[t], taken)
    return places


def roofs(things, pairs, order):
    """The list, for each thing, of a number above which no place of placed is."""
    near = partners(things, pairs)
    told = [0 for thing in things]
    for at, t in enumerate(order):
        size, border = things[t]
        ahead = [u for u in order[:at] if u in near[t]]
        told[t] = sum([rounded(things[u][0] + size - 1, border) for u in ahead])
    return told


def placed_by(program, word):
    """The places by placed of the program's things, clashes and order_by."""
    order = order_by(program, word)
    return placed(program[0], clashes(program), order)
