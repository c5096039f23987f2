"""Ways through a program [5]."""

from frameshare.flows import first_rows, goes_without_rows, last_rows, next_rows
from frameshare.items import rows_in
from frameshare.things import is_number_below


class Choices:
    """Choices that are taken one behind the other, 0 where none is left."""

    def __init__(self, choices):
        self.told = list(choices)
        self.taken = 0

    def take(self):
        """The next choice."""
        if self.taken == len(self.told):
            return 0
        self.taken += 1
        return self.told[self.taken - 1]


def go_item(item, first, choices, way):
    """Add the rows of one item to the way, as is chosen; first is the number of its first row."""
    if item[0] == "either":
        if choices.take() == 0:
            go_items(item[1], first, choices, way)
        else:
            go_items(item[2], first + len(rows_in(item[1])), choices, way)
    elif item[0] == "round":
        while choices.take() == 1:
            go_items(item[1], first, choices, way)
    else:
        way.append(first)


def go_items(items, first, choices, way):
    """Add the rows of the items to the way, as is chosen; first is the number of their first row."""
    for item in items:
        go_item(item, first, choices, way)
        first += len(rows_in((item,)))


def way_of(program, choices):
    """The way that is gone by the choices."""
    way = []
    go_items(program[1], 0, Choices(choices), way)
    return way


def is_way(program, thing):
    """Whether it's a list of rows that is a way."""
    if not isinstance(thing, list):
        return False
    if len(thing) == 0:
        return goes_without_rows(program)
    nexts = next_rows(program)
    if not all([is_number_below(row, len(nexts)) for row in thing]):
        return False
    for at in range(1, len(thing)):
        if thing[at] not in nexts[thing[at - 1]]:
            return False
    return thing[0] in first_rows(program) and thing[-1] in last_rows(program)
