"""Whether a tree shows that no placing is as low as a limit [10]."""

from frameshare.bounds import end_on
from frameshare.things import is_number_below


def is_part(tree, word, many):
    """Whether it's a tuple of so many that begins with the word."""
    return isinstance(tree, tuple) and len(tree) == many and tree[0] == word


def is_chain(order, many, told):
    """Whether it's a tuple of some of so many things, each of which lies below the next one as was told."""
    if not isinstance(order, tuple) or not all([is_number_below(t, many) for t in order]):
        return False
    return all([(order[at - 1], order[at]) in told for at in range(1, len(order))])


def ends_above(things, order, limit):
    """Whether the things, put one on another in this order, end above the limit."""
    end = 0
    for t in order:
        end = end_on(things[t], end)
    return end > limit


def closes(things, limit, tree, told):
    """Whether it's a stack or a ring that leaves nothing of what was told as low as the limit."""
    if is_part(tree, "stack", 2) and is_chain(tree[1], len(things), told):
        return len(set(tree[1])) == len(tree[1]) and ends_above(things, tree[1], limit)
    if is_part(tree, "ring", 2) and is_chain(tree[1], len(things), told):
        return len(tree[1]) >= 2 and tree[1][0] == tree[1][-1]
    return False


def asks(tree, pairs, many):
    """Whether it's one that asks of a pair of pairs."""
    if not is_part(tree, "pair", 5):
        return False
    return is_number_below(tree[1], many) and is_number_below(tree[2], many) and (tree[1], tree[2]) in pairs


def shows_none(things, pairs, limit, tree):
    """Whether it's a tree that shows that no placing is as low as the limit."""
    # What is left to look at, each with all that was told on the way there: pairs of what lies below what.
    left = [(tree, {})]
    while len(left) > 0:
        part, told = left.pop()
        if asks(part, pairs, len(things)):
            word, t, u, one, other = part
            left.append((other, {**told, (u, t): True}))
            left.append((one, {**told, (t, u): True}))
        elif not closes(things, limit, part, told):
            return False
    return True
