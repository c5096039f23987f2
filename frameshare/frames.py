"""Frames of functions that call one another, the called one's laid into the asker's [13]."""

from frameshare.bounds import end_on
from frameshare.houses import calls_of, stays
from frameshare.placings import least_place, rooms_at
from frameshare.rules import placed_by
from frameshare.things import common_border, end_of, height


def place_of_room(room, taken):
    """The least place of a room, a pair (height, border), at which it lies over none of what is taken."""
    # A room without height lies over none, wherever it is.
    return 0 if room[0] == 0 else least_place(room, taken)


def frame_of(house, g, word, ahead):
    """The frame of the function g, with the frames of all functions ahead of it."""
    things = house[g][0]
    places = placed_by(house[g], word)
    called = [(ahead[f][0], ahead[f][1]) for row, f in calls_of(house[g])]
    rooms = []
    tops = [height(things, places)]
    for room, (row, some) in zip(called, stays(house, g)):
        place = place_of_room(room, [rooms_at(things[t], places[t]) for t in some])
        rooms.append((row, place))
        tops.append(end_of(room, place))
    return (max(tops), common_border([*things, *called]), places, rooms)


def frames(house, word):
    """The list of the frames of all functions; refused with BadWord as order_by."""
    told = []
    for g in range(len(house)):
        told.append(frame_of(house, g, word, told))
    return told


def apart(house, word):
    """The list of the heights that come where each call's room lies behind all of the function's own things."""
    some = frames(house, word)
    heights = []
    for function, frame in zip(house, some):
        own = height(function[0], frame[2])
        called = [(heights[f], some[f][1]) for row, f in calls_of(function) if heights[f] > 0]
        heights.append(max([own, *[end_on(room, own) for room in called]]))
    return heights
