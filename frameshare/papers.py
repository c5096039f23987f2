"""Trees that show that no placing is lower than the least one [10]."""

from frameshare.bounds import end_on
from frameshare.groups import is_in
from frameshare.least import least_places
from frameshare.things import end_of, height, rounded


class Known:
    """What lies below what by what was told on the way to a part of a tree."""

    def __init__(self, floors, bases, straight, above):
        # The least place that each thing can have, and the thing below that holds it up there, None on the ground.
        self.floors = floors
        self.bases = bases
        # Those that were told to lie above each thing, and the group of all that do so by any chain.
        self.straight = straight
        self.above = above


def nothing_known(things):
    """What is known ahead of all that is told."""
    return Known([0 for t in things], [None for t in things], [[] for t in things], [0 for t in things])


def lift(things, known, t, u):
    """Put the thing u, and all that was told to lie above it, up so far that it lies above t."""
    floor = rounded(end_of(things[t], known.floors[t]), things[u][1])
    if floor > known.floors[u]:
        known.floors[u] = floor
        known.bases[u] = t
        for other in known.straight[u]:
            lift(things, known, u, other)


def told_below(things, known, t, u):
    """What is known where it's told, too, that t lies below u."""
    straight = [list(some) for some in known.straight]
    straight[t].append(u)
    more = (1 << u) | known.above[u]
    above = [group | more if s == t or is_in(t, group) else group for s, group in enumerate(known.above)]
    told = Known(list(known.floors), list(known.bases), straight, above)
    lift(things, told, t, u)
    return told


def chain_up_to(known, t):
    """The tuple of the things that hold up the thing t, from the ground to itself."""
    order = [t]
    while known.bases[order[-1]] is not None:
        order.append(known.bases[order[-1]])
    return tuple(reversed(order))


def end_above(things, floors, t, u):
    """The end of the thing u where it lies above t, as far as floors tell."""
    return end_on(things[u], max(floors[u], end_of(things[t], floors[t])))


def next_pair(things, pairs, known):
    """The pair, of those of which it's open which lies below, that lifts most whatever is told of it."""
    best = None
    most = 0
    for t, u in pairs:
        if not is_in(u, known.above[t]) and not is_in(t, known.above[u]):
            end = min(end_above(things, known.floors, t, u), end_above(things, known.floors, u, t))
            if end > most:
                best = (t, u)
                most = end
    return best


def tree_for(things, pairs, limit, known):
    """A tree for a limit as low as which, by what is known, no placing is.

    What lies below what by a chain isn't asked: it lifts nothing more. So no ring is ever told.
    """
    for t, thing in enumerate(things):
        if end_of(thing, known.floors[t]) > limit:
            return ("stack", chain_up_to(known, t))
    t, u = next_pair(things, pairs, known)
    one = tree_for(things, pairs, limit, told_below(things, known, t, u))
    other = tree_for(things, pairs, limit, told_below(things, known, u, t))
    return ("pair", t, u, one, other)


def paper_of(things, pairs):
    """A tree that shows that no placing is as low as the least height less 1."""
    if len(things) == 0:
        return ("stack", ())
    limit = height(things, least_places(things, pairs)) - 1
    return tree_for(things, pairs, limit, nothing_known(things))
