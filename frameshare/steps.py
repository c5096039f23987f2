"""A program as a list of steps, by which choices are found that lead from one step to another.

A step is a pair (row, nexts): the row that is done there, None where none is, and the tuple of the steps that may come
next: one alone, or two, of which the choices 0 and 1 take the first and the second. The program ends behind the last.
"""

from frameshare.items import is_row


def add_item(item, steps):
    """Add the steps of one item."""
    begin = len(steps)
    if is_row(item):
        steps.append((item, (begin + 1,)))
        return
    # Where the first step leads to is known only behind the others.
    steps.append(None)
    add_items(item[1], steps)
    leave = len(steps)
    steps.append(None)
    if item[0] == "round":
        steps[leave] = (None, (begin,))
        steps[begin] = (None, (leave + 1, begin + 1))
        return
    add_items(item[2], steps)
    steps[leave] = (None, (len(steps),))
    steps[begin] = (None, (begin + 1, leave + 1))


def add_items(items, steps):
    """Add the steps of the items."""
    for item in items:
        add_item(item, steps)


def steps_of(program):
    """The list of the program's steps."""
    steps = []
    add_items(program[1], steps)
    return steps


def stands_of(steps):
    """The list, for each row, of the step at which it's done."""
    return [at for at, step in enumerate(steps) if step[0] is not None]


def choices_to(steps, begin, goals, walls):
    """The choices that lead from the begin to one of the goals, through no wall; None where none do."""
    found = {begin: []}
    left = [begin]
    while len(left) > 0:
        at = left.pop(0)
        if at in goals:
            return found[at]
        if at not in walls and at < len(steps):
            nexts = steps[at][1]
            for choice, there in enumerate(nexts):
                if there not in found:
                    found[there] = found[at] + [choice] if len(nexts) == 2 else found[at]
                    left.append(there)
    return None
