"""Whether something is made as a program is [5], or as a house's function [12], be it right or not.

Items are looked at with many, the count of things that they may name, and ahead, that of functions that they may call.
"""

from frameshare.things import is_number_below, is_thing


def are_reads(reads, many):
    """Whether it's a tuple of unlike ones of so many things."""
    if not isinstance(reads, tuple):
        return False
    if not all([is_number_below(t, many) for t in reads]):
        return False
    return len(set(reads)) == len(reads)


def read_and_write(reads, write, many):
    """Whether these are a row's reads and write, of things of these alone."""
    return are_reads(reads, many) and (write is None or is_number_below(write, many))


def is_item(item, many, ahead):
    """Whether it's an item that names things of so many, and functions of those ahead, alone."""
    if not isinstance(item, tuple) or len(item) == 0:
        return False
    word = item[0]
    if word == "row":
        return len(item) == 3 and read_and_write(item[1], item[2], many)
    if word == "call":
        return len(item) == 4 and is_number_below(item[1], ahead) and read_and_write(item[2], item[3], many)
    if word == "give" or word == "back":
        return len(item) == 2 and is_number_below(item[1], many)
    if word == "either":
        return len(item) == 3 and are_items(item[1], many, ahead) and are_items(item[2], many, ahead)
    return word == "round" and len(item) == 2 and are_items(item[1], many, ahead)


def are_items(items, many, ahead):
    """Whether it's a tuple of such items."""
    if not isinstance(items, tuple):
        return False
    for item in items:
        if not is_item(item, many, ahead):
            return False
    return True


def has_shape(thing, ahead):
    """Whether it's a pair of a tuple of things and a tuple of items over these, with so many functions to call."""
    if not isinstance(thing, tuple) or len(thing) != 2:
        return False
    things, items = thing
    if not isinstance(things, tuple) or not all([is_thing(part) for part in things]):
        return False
    return are_items(items, len(things), ahead)
