"""Groups of few things, each written as one number: the thing t is of the group where the bit t is set."""


def all_of(things):
    """The group of all things."""
    return (1 << len(things)) - 1


def group_of(some):
    """The group of some things, unlike ones."""
    return sum([1 << t for t in some])


def is_in(t, group):
    """Whether the thing is of the group."""
    return (group >> t) & 1 == 1


def members(group):
    """The rising list of the things of the group."""
    return [t for t in range(group.bit_length()) if is_in(t, group)]


def without(group, t):
    """The group without one of its things."""
    return group - (1 << t)
