"""Whether something is made as a program is [5], be it right or not."""

from frameshare.things import is_number_below, is_thing


def are_reads(reads, many):
    """Whether it's a tuple of unlike ones of so many things."""
    if not isinstance(reads, tuple):
        return False
    if not all([is_number_below(t, many) for t in reads]):
        return False
    return len(set(reads)) == len(reads)


def is_plain_row(item, many):
    """Whether the item, whose word is row, is one that names things of these alone."""
    if len(item) != 3 or not are_reads(item[1], many):
        return False
    return item[2] is None or is_number_below(item[2], many)


def is_item(item, many):
    """Whether it's an item that names things of so many alone."""
    if not isinstance(item, tuple) or len(item) == 0:
        return False
    word = item[0]
    if word == "row":
        return is_plain_row(item, many)
    if word == "give" or word == "back":
        return len(item) == 2 and is_number_below(item[1], many)
    if word == "either":
        return len(item) == 3 and are_items(item[1], many) and are_items(item[2], many)
    return word == "round" and len(item) == 2 and are_items(item[1], many)


def are_items(items, many):
    """Whether it's a tuple of items that name things of so many alone."""
    if not isinstance(items, tuple):
        return False
    for item in items:
        if not is_item(item, many):
            return False
    return True


def has_shape(thing):
    """Whether it's a pair of a tuple of things and a tuple of items over these."""
    if not isinstance(thing, tuple) or len(thing) != 2:
        return False
    things, items = thing
    if not isinstance(things, tuple) or not all([is_thing(part) for part in things]):
        return False
    return are_items(items, len(things))
