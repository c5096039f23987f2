"""Bounds below all placings, by what is busy at once [8]."""

from frameshare.groups import all_of, members, without
from frameshare.lives import busy_behind
from frameshare.things import end_of, rounded


def greatest_of(numbers):
    """The pair of the greatest number, none of which is below 0, and the first row that has it, (0, None) of none."""
    if len(numbers) == 0:
        return 0, None
    greatest = max(numbers)
    return greatest, numbers.index(greatest)


def loads(program):
    """The list, for each row, of the sizes together of what is busy behind it."""
    things = program[0]
    return [sum([things[t][0] for t in busy]) for busy in busy_behind(program)]


def bound(program):
    """The pair of the greatest load and the first row that has it, (0, None) of no rows."""
    return greatest_of(loads(program))


def end_on(thing, end):
    """The end of the thing where it's put to its least place from this end on."""
    return end_of(thing, rounded(end, thing[1]))


def stack(things, order):
    """The list of the places of some things, in this order, each one put on the one ahead."""
    places = []
    end = 0
    for t in order:
        place = rounded(end, things[t][1])
        places.append(place)
        end = end_of(things[t], place)
    return places


def least_ends(things):
    """The list, for each group, of the least height of a stack of all its things."""
    ends = [0]
    for group in range(1, all_of(things) + 1):
        # A lower end below never makes a higher one above, so that the least ones of lesser groups are enough.
        ends.append(min([end_on(things[t], ends[without(group, t)]) for t in members(group)]))
    return ends


def last_begins(things, limit):
    """The list, for each group, of the last end on which a stack of all its things ends at the limit still."""
    begins = [limit]
    for group in range(1, all_of(things) + 1):
        begins.append(max([begin_below(things[t], begins[without(group, t)]) for t in members(group)]))
    return begins


def begin_below(thing, end):
    """The last place of the thing, maybe below 0, where it ends at this end still."""
    size, border = thing
    return (end - size) // border * border


def best_stack(things):
    """The pair of the least height of a stack of all and the first order, as lists rise, that has it."""
    least_end = least_ends(things)[-1]
    begins = last_begins(things, least_end)
    left = all_of(things)
    order = []
    end = 0
    while left > 0:
        first = min([t for t in members(left) if end_on(things[t], end) <= begins[without(left, t)]])
        order.append(first)
        end = end_on(things[first], end)
        left = without(left, first)
    return least_end, order


def crowd_bound(program):
    """The pair of the greatest height of a best stack of what is busy behind one row, and the first such row.

    (0, None) of no rows.
    """
    things = program[0]
    return greatest_of([least_ends([things[t] for t in busy])[-1] for busy in busy_behind(program)])
