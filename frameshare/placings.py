"""Placings: places at which no two of a pair lie over one another [7]."""

from frameshare.things import end_of, is_number, lie_over, rounded


def may_lie(thing, place):
    """Whether it's a place at which the thing may lie."""
    return is_number(place) and place >= 0 and place % thing[1] == 0


def is_placing(things, pairs, places):
    """Whether it's a list of places, one for each thing, that is a placing."""
    if not isinstance(places, list) or len(places) != len(things):
        return False
    if not all([may_lie(thing, place) for thing, place in zip(things, places)]):
        return False
    return first_over(things, pairs, places) is None


def first_over(things, pairs, places):
    """The first pair that lie over one another, None where none does."""
    for t, u in pairs:
        if lie_over(things[t], places[t], things[u], places[u]):
            return t, u
    return None


def partners(things, pairs):
    """The list, for each thing, of the list of those that are in a pair with it."""
    told = [[] for thing in things]
    for t, u in pairs:
        told[t].append(u)
        told[u].append(t)
    return told


def rooms_at(thing, place):
    """The pair (begin, end) of the rooms on which the thing lies at the place."""
    return place, end_of(thing, place)


def least_place(thing, taken):
    """The least place at which the thing lies over none of the taken rooms, a list of pairs (begin, end)."""
    place = 0
    # As the begins rise, what the thing was put behind once isn't met again, and each step up is one that it must go.
    for begin, end in sorted(taken):
        if begin < end_of(thing, place) and place < end:
            place = rounded(end, thing[1])
    return place
