"""Moves that bring things from places to others, so that nothing is lost [14]."""

from frameshare.placings import may_lie
from frameshare.things import end_of, height, is_number_below, lie_over, rounded


def in_the_way(things, places, t, place):
    """The first other thing that lies over t where t is put to the place, None where none does."""
    for u, other in enumerate(things):
        if u != t and lie_over(things[t], place, other, places[u]):
            return u
    return None


def settle(things, places, news, told):
    """Move things straight to their new places as long as the rooms of any are free, and add these moves."""
    moved = True
    while moved:
        moved = False
        for t, place in enumerate(news):
            if places[t] != place and in_the_way(things, places, t, place) is None:
                places[t] = place
                told.append((t, place))
                moved = True


def one_of_ring(things, places, news):
    """A thing of a ring of such that lie in one another's way, where none can be moved to its new place.

    From any thing it's gone to one in its way, over and over: behind as many steps as there are things, a ring is
    reached. What was put out of the way is never met, as it lies above all new places.
    """
    waiting = [t for t, place in enumerate(news) if places[t] != place]
    t = waiting[0]
    for count in waiting:
        t = in_the_way(things, places, t, news[t])
    return t


def moves(things, olds, news):
    """A list of pairs (t, place), moves one behind the other that lead from the places olds to news.

    Only where nothing else can be moved, one thing of a ring is put above all others, to be moved once more.
    """
    places = list(olds)
    told = []
    top = max(height(things, olds), height(things, news))
    settle(things, places, news, told)
    while places != news:
        t = one_of_ring(things, places, news)
        places[t] = rounded(top, things[t][1])
        top = end_of(things[t], places[t])
        told.append((t, places[t]))
        settle(things, places, news, told)
    return told


def is_move(things, places, move):
    """Whether it's a pair (t, place) that brings the thing t to rooms on which no other one lies at these places."""
    if not isinstance(move, tuple) or len(move) != 2:
        return False
    t, place = move
    if not is_number_below(t, len(things)) or not may_lie(things[t], place):
        return False
    return in_the_way(things, places, t, place) is None


def shows_moves(things, olds, news, thing):
    """Whether it's a list of such moves, one behind the other, that lead from olds to news."""
    if not isinstance(thing, list):
        return False
    places = list(olds)
    for move in thing:
        if not is_move(things, places, move):
            return False
        t, place = move
        places[t] = place
    return places == news
