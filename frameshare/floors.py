"""A floor that things come to and leave, regrown by moves that lose nothing [15]."""

from frameshare.errors import Given, NotGiven, NoThing
from frameshare.moving import moves
from frameshare.placings import least_place, rooms_at
from frameshare.things import end_of


def taken_rooms(things, spots):
    """The list of the rooms on which those lie that have a spot."""
    return [rooms_at(things[t], place) for t, place in spots.items()]


def top_of(things, spots):
    """The greatest end, 0 of no things."""
    return max([end_of(things[t], place) for t, place in spots.items()], default=0)


def regrown(things, spots, handed):
    """The spots that come where those handed out stay and the others are put anew, the greater ones first."""
    told = {t: spots[t] for t in handed}
    others = [t for t in things if t not in handed]
    for t in sorted(others, key=lambda u: (-things[u][0], u)):
        told[t] = least_place(things[t], taken_rooms(things, told))
    return told


class Floor:
    """Things that lie at once, by numbers."""

    def __init__(self):
        self.things = {}
        self.spots = {}
        # Those that are handed out, each with True.
        self.handed = {}
        # How many came so far: numbers of those that left aren't told again.
        self.many = 0

    def come(self, size, border):
        """Take a thing more, at the least place at which it lies over none, and tell its number."""
        t = self.many
        place = least_place((size, border), taken_rooms(self.things, self.spots))
        self.things[t] = (size, border)
        self.spots[t] = place
        self.many += 1
        return t

    def leave(self, t):
        """Let the thing go; refused with NoThing, and with Given of what is handed out."""
        if t not in self.things:
            raise NoThing("no such thing")
        if t in self.handed:
            raise Given("handed out")
        del self.things[t]
        del self.spots[t]

    def give(self, t):
        """Hand the thing out; refused with NoThing, and with Given of what is handed out already."""
        if t not in self.things:
            raise NoThing("no such thing")
        if t in self.handed:
            raise Given("handed out already")
        self.handed[t] = True

    def back(self, t):
        """Take the thing back; refused with NoThing, and with NotGiven of what isn't handed out."""
        if t not in self.things:
            raise NoThing("no such thing")
        if t not in self.handed:
            raise NotGiven("not handed out")
        del self.handed[t]

    def regrow(self):
        """Put those that aren't handed out anew where the floor gets lower by that; tell the list of moves."""
        news = regrown(self.things, self.spots, self.handed)
        if top_of(self.things, news) >= self.height():
            return []
        numbers = sorted(self.things)
        things = tuple([self.things[t] for t in numbers])
        told = moves(things, [self.spots[t] for t in numbers], [news[t] for t in numbers])
        self.spots = {t: news[t] for t in numbers}
        return [(numbers[at], place) for at, place in told]

    def places(self):
        """The dict from numbers to places."""
        return dict(self.spots)

    def given(self):
        """The rising list of what is handed out."""
        return sorted(self.handed)

    def height(self):
        """The greatest end, 0 of no things."""
        return top_of(self.things, self.spots)

    def twin(self):
        """A floor of its own with the same."""
        other = Floor()
        other.things = dict(self.things)
        other.spots = dict(self.spots)
        other.handed = dict(self.handed)
        other.many = self.many
        return other
