"""Things, their places and the rooms that they lie on [4]."""


def is_number(thing):
    """Whether it's a whole number; True and False are none, though Python counts them among these."""
    return isinstance(thing, int) and not isinstance(thing, bool)


def is_number_below(thing, many):
    """Whether it's the number of one of so many, numbered from 0."""
    return is_number(thing) and 0 <= thing < many


def is_thing(thing):
    """Whether it's a pair (size, border) of numbers from 1 on."""
    if not isinstance(thing, tuple) or len(thing) != 2:
        return False
    size, border = thing
    return is_number(size) and is_number(border) and size >= 1 and border >= 1


def rounded(number, border):
    """The least number that the border divides and that isn't less."""
    return -(-number // border) * border


def end_of(thing, place):
    """The first room behind the thing that lies at the place."""
    return place + thing[0]


def lie_over(thing, place, other, there):
    """Whether some room is both the thing's at the place and the other one's there."""
    return place < end_of(other, there) and there < end_of(thing, place)


def height(things, places):
    """The greatest end, 0 of no things."""
    return max([end_of(thing, place) for thing, place in zip(things, places)], default=0)


def greatest_divisor(number, other):
    """The greatest number that divides both."""
    while other != 0:
        number, other = other, number % other
    return number


def common_border(things):
    """The least number from 1 on that each border divides."""
    common = 1
    for thing in things:
        border = thing[1]
        common = common // greatest_divisor(common, border) * border
    return common
