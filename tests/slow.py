"""What DOC.md says of placings, told slowly and word by word: room by room and place by place."""

import itertools


def rooms(thing, place):
    return set(range(place, place + thing[0]))


def top(things, places):
    return max([place + size for (size, border), place in zip(things, places)], default=0)


def in_pair(pairs, t, u):
    return (t, u) in pairs or (u, t) in pairs


def slow_placed(things, pairs, order):
    """Each thing, in this order, at the first place that is found to be free, trying one behind the other."""
    places = {}
    for t in order:
        size, border = things[t]
        taken = set().union(*[rooms(things[u], places[u]) for u in places if in_pair(pairs, t, u)])
        place = 0
        while rooms(things[t], place) & taken:
            place += border
        places[t] = place
    return [places[t] for t in range(len(things))]


def slow_roofs(things, pairs, order):
    told = []
    for t, (size, border) in enumerate(things):
        ahead = [u for u in order[:order.index(t)] if in_pair(pairs, t, u)]
        steps = 0
        for u in ahead:
            steps += len(range(0, things[u][0] + size - 1, border))
        told.append(border * steps)
    return told


def slow_stack(things, order):
    places, end = [], 0
    for t in order:
        while end % things[t][1] != 0:
            end += 1
        places.append(end)
        end += things[t][0]
    return places


def slow_best_stack(things):
    """By all orders, as lists rise; min keeps the first of like ones."""
    orders = [list(order) for order in itertools.permutations(range(len(things)))]
    heights = [top([things[t] for t in order], slow_stack(things, order)) for order in orders]
    return min(heights), orders[heights.index(min(heights))]


def has_placing(things, pairs, limit, places=()):
    """Whether there is a placing not above the limit, trying all places of each thing."""
    t = len(places)
    if t == len(things):
        return True
    size, border = things[t]
    for place in range(0, limit - size + 1, border):
        if not any(in_pair(pairs, t, u) and rooms(things[t], place) & rooms(things[u], places[u]) for u in range(t)):
            if has_placing(things, pairs, limit, (*places, place)):
                return True
    return False


def slow_least(things, pairs):
    """The least limit for which there is a placing."""
    limit = 0
    while not has_placing(things, pairs, limit):
        limit += 1
    return limit


def least_by_orders(things, pairs):
    """The least height over all orders, put one by one."""
    orders = itertools.permutations(range(len(things)))
    return min(top(things, slow_placed(things, pairs, list(order))) for order in orders)


def slow_shows(things, pairs, limit, tree, told=()):
    """Whether the tree shows that no placing is as low as the limit, with these told to lie below one another."""
    if type(tree) is not tuple or not tree or type(tree[0]) is not str:
        return False
    if tree[0] == "pair" and len(tree) == 5:
        word, t, u, one, other = tree
        if type(t) is not int or type(u) is not int or (t, u) not in pairs:
            return False
        below, above = (*told, (t, u)), (*told, (u, t))
        return slow_shows(things, pairs, limit, one, below) and slow_shows(things, pairs, limit, other, above)
    if tree[0] not in ("stack", "ring") or len(tree) != 2 or type(tree[1]) is not tuple:
        return False
    word, order = tree
    if any(type(t) is not int or t not in range(len(things)) for t in order):
        return False
    if any(step not in told for step in zip(order, order[1:])):
        return False
    if word == "ring":
        return len(order) > 1 and order[0] == order[-1]
    places = slow_stack(things, order)
    return len(set(order)) == len(order) and top([things[t] for t in order], places) > limit
