"""What DOC.md says of a floor, told slowly: room by room and place by place."""

from tests.slow import rooms


class SlowFloor:
    def __init__(self):
        self.here, self.out, self.next = {}, set(), 0

    def taken(self, some):
        return set().union(*[rooms(thing, place) for thing, place in some])

    def free_place(self, thing, some):
        place, taken = 0, self.taken(some)
        while rooms(thing, place) & taken:
            place += thing[1]
        return place

    def come(self, size, border):
        self.here[self.next] = ((size, border), self.free_place((size, border), self.here.values()))
        self.next += 1
        return self.next - 1

    def refusal(self, deed, t):
        """The name of the refusal that is due, None where none is."""
        if t not in self.here:
            return "NoThing"
        if deed in ("leave", "give") and t in self.out:
            return "Given"
        if deed == "back" and t not in self.out:
            return "NotGiven"
        return None

    def leave(self, t):
        del self.here[t]

    def give(self, t):
        self.out.add(t)

    def back(self, t):
        self.out.remove(t)

    def regrown(self):
        """The places that regrow leads to, as they are where nothing is done."""
        put = {t: self.here[t] for t in self.out}
        for t in sorted(set(self.here) - self.out, key=lambda t: (-self.here[t][0][0], t)):
            thing = self.here[t][0]
            put[t] = (thing, self.free_place(thing, put.values()))
        return put if self.top(put) < self.top(self.here) else dict(self.here)

    def top(self, some):
        return max([place + thing[0] for thing, place in some.values()], default=0)

    def places(self):
        return {t: place for t, (thing, place) in self.here.items()}
