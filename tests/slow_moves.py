"""What DOC.md says of moves, told slowly: room by room."""

from tests.slow import rooms


def played(things, olds, moves):
    """The places behind the moves, or None where one of them brings its thing over another one or beside its border."""
    places = list(olds)
    for t, place in moves:
        size, border = things[t]
        taken = set().union(*[rooms(things[u], places[u]) for u in range(len(things)) if u != t])
        if place < 0 or place % border or rooms(things[t], place) & taken:
            return None
        places[t] = place
    return places


def drawn_line(things, dice, alike):
    """Places of all things at which no two lie over one another, in any order, with rooms between."""
    left, end = list(range(len(things))), 0
    places = [None] * len(things)
    while left:
        t = left.pop(dice.below(len(left)))
        size, border = things[t]
        end += dice.below(3) * (size if alike else 1)
        while end % border:
            end += 1
        places[t] = end
        end += size
    return places


def drawn_moving(dice, most_things, alike):
    """Things with old and new places, some of them alike."""
    many = dice.below(most_things + 1)
    size = (1, 2, 4, 6, 12)[dice.below(5)]
    borders = [border for border in range(1, size + 1) if size % border == 0]
    if alike:
        things = tuple((size, borders[dice.below(len(borders))]) for t in range(many))
    else:
        things = tuple((1 + dice.below(7), 1 + dice.below(4)) for t in range(many))
    olds, news = drawn_line(things, dice, alike), drawn_line(things, dice, alike)
    return things, olds, news


def moved_counts(things, moves):
    return [sum(t == u for u, place in moves) for t in range(len(things))]
