"""A runner that marks what lies whole, and runs that show what is wrong [11]."""

from frameshare.flows import given_behind, rows_of
from frameshare.items import needs_of, write_of
from frameshare.lives import busy_behind, clashes
from frameshare.placings import first_over
from frameshare.steps import choices_to, stands_of, steps_of
from frameshare.things import is_number_below, lie_over
from frameshare.ways import way_of


def first_broken(some, whole):
    """The first of some things that doesn't lie whole, None where all do."""
    for t in some:
        if not whole[t]:
            return t
    return None


def mark_written(things, places, t, whole):
    """Mark that the thing is written: it lies whole, and each other one that lies over it doesn't."""
    for u, other in enumerate(things):
        if lie_over(things[t], places[t], other, places[u]):
            whole[u] = u == t


def marked(program, places, choices):
    """("right", way), or ("wrong", many, t): many rows were done as t was found not to lie whole."""
    things = program[0]
    rows = rows_of(program)
    given = given_behind(program)
    way = way_of(program, choices)
    whole = [False for thing in things]
    for many, row in enumerate(way, start=1):
        broken = first_broken(needs_of(rows[row]), whole)
        if broken is None:
            written = write_of(rows[row])
            if written is not None:
                mark_written(things, places, written, whole)
            broken = first_broken(given[row], whole)
        if broken is not None:
            return ("wrong", many, broken)
    return ("right", way)


def row_with_both(program, t, u):
    """The first row behind which both are busy."""
    rows = [row for row, busy in enumerate(busy_behind(program)) if t in busy and u in busy]
    return rows[0]


def runs_to_try(program, t, u):
    """Lists of choices, one of which at least is wrong where both clash and lie over one another.

    All lead to a row behind which both are busy. One of both doesn't lie whole there then, which is wrong at once where
    it's handed out; else the choices that lead on from there to where it's needed, ahead of its next write, are wrong.
    """
    steps = steps_of(program)
    stands = stands_of(steps)
    here = stands[row_with_both(program, t, u)]
    ahead = choices_to(steps, 0, [here], [])
    told = [ahead]
    for thing in (t, u):
        needing = [at for at in stands if thing in needs_of(steps[at][0])]
        writing = [at for at in stands if write_of(steps[at][0]) == thing]
        onward = choices_to(steps, here + 1, needing, writing)
        if onward is not None:
            told.append(ahead + onward)
    return told


def wrong_run(program, places):
    """None where no choices are wrong, else a list of choices that are."""
    over = first_over(program[0], clashes(program), places)
    if over is None:
        return None
    t, u = over
    wrong = [choices for choices in runs_to_try(program, t, u) if shows_wrong_run(program, places, choices)]
    return wrong[0]


def shows_wrong_run(program, places, thing):
    """Whether it's a list of 0 and 1 with which marked is wrong."""
    if not isinstance(thing, list) or not all([is_number_below(choice, 2) for choice in thing]):
        return False
    return marked(program, places, thing)[0] == "wrong"
