"""The least frame of few things [9]."""

from frameshare.errors import TooMany
from frameshare.groups import all_of, group_of, members, without
from frameshare.placings import is_placing, partners
from frameshare.rules import placed
from frameshare.things import end_of, height, rounded

MOST_THINGS = 8


class Plan:
    """What a look for lower placings needs of the things."""

    def __init__(self, things, pairs):
        self.things = things
        self.near = [group_of(some) for some in partners(things, pairs)]
        self.crowds = crowd_sizes(things, self.near)


def crowd_sizes(things, near):
    """The list, for each group, of the greatest sum of sizes of some of it of which each two are in a pair."""
    sizes = [0]
    for group in range(1, all_of(things) + 1):
        last = group.bit_length() - 1
        rest = without(group, last)
        sizes.append(max(sizes[rest], things[last][0] + sizes[rest & near[last]]))
    return sizes


def may_be_lower(plan, left, floors, low, limit):
    """Whether a placing below the limit may come where those left lie at their floors or above, none below low."""
    if height(plan.things, floors) >= limit:
        return False
    lowest = min([max(floors[t], low) for t in members(left)], default=0)
    return lowest + plan.crowds[left] < limit


def put(plan, left, floors, t):
    """The floors where the thing lies at its own one and those of left that are in a pair with it lie above it."""
    told = list(floors)
    end = end_of(plan.things[t], floors[t])
    for u in members(left & plan.near[t]):
        told[u] = max(told[u], rounded(end, plan.things[u][1]))
    return told


def lower_places(plan, left, floors, last, limit):
    """The places of the lowest placing below the limit, None where there is none.

    Those that aren't left lie at their floors already; each one that is left comes behind last, a pair
    (place, thing), by its own such pair, so that no placing is found by two orders.
    """
    if not may_be_lower(plan, left, floors, last[0], limit):
        return None
    if left == 0:
        return floors
    found = None
    for t in members(left):
        if (floors[t], t) > last:
            rest = without(left, t)
            lower = lower_places(plan, rest, put(plan, rest, floors, t), (floors[t], t), limit)
            if lower is not None:
                found = lower
                limit = height(plan.things, lower)
    return found


def places_below(things, pairs, limit):
    """The places of the lowest placing below the limit, None where there is none."""
    floors = [0 for thing in things]
    return lower_places(Plan(things, pairs), all_of(things), floors, (0, -1), limit)


def least_places(things, pairs):
    """The places of a placing of the least height."""
    order = sorted(range(len(things)), key=lambda t: -things[t][0])
    places = placed(things, pairs, order)
    lower = places_below(things, pairs, height(things, places))
    return places if lower is None else lower


def least(things, pairs):
    """The pair of the least height that a placing has and such a placing; refused with TooMany of more than 8."""
    if len(things) > MOST_THINGS:
        raise TooMany("more than 8 things")
    places = least_places(things, pairs)
    return height(things, places), places


def is_least(things, pairs, places):
    """Whether it's a placing of the least height."""
    return is_placing(things, pairs, places) and places_below(things, pairs, height(things, places)) is None
