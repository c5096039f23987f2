"""Which things are alive and busy behind which rows, and which clash [6]."""

from frameshare.flows import given_behind, next_rows, rows_of
from frameshare.items import needs_of, write_of


def needed_by(row, behind):
    """The rising list of what is needed ahead of the row where this is needed behind it."""
    written = write_of(row)
    return sorted(set(needs_of(row)) | {t for t in behind if t != written})


def needed_at(some, ahead):
    """The rising list of what is needed ahead of any of some rows."""
    return sorted({t for row in some for t in ahead[row]})


def needed_ahead(program):
    """The list, for each row, of what is read or given, by it or on some way on, ahead of its next write."""
    rows = rows_of(program)
    nexts = next_rows(program)
    ahead = [[] for row in rows]
    changed = True
    # What a round's next going needs is known only behind a look through the rows: so until nothing more is found.
    while changed:
        changed = False
        for at in reversed(range(len(rows))):
            needed = needed_by(rows[at], needed_at(nexts[at], ahead))
            if needed != ahead[at]:
                ahead[at] = needed
                changed = True
    return ahead


def alive_behind(program):
    """The list, for each row, of the rising list of the things that are alive behind it."""
    ahead = needed_ahead(program)
    told = []
    for some, given in zip(next_rows(program), given_behind(program)):
        told.append(sorted(set(needed_at(some, ahead)) | set(given)))
    return told


def busy_behind(program):
    """The list, for each row, of the rising list of the things that are busy behind it."""
    told = []
    for row, alive in zip(rows_of(program), alive_behind(program)):
        written = write_of(row)
        told.append(alive if written is None else sorted(set([*alive, written])))
    return told


def clashes(program):
    """The rising list of all pairs (t, u), t less than u, of things that clash."""
    return sorted({(t, u) for busy in busy_behind(program) for t in busy for u in busy if t < u})


def rows_with(t, busy):
    """The rising list of the rows behind which the thing is busy."""
    return [at for at, things in enumerate(busy) if t in things]


def stretch_of(program, t):
    """The pair of the first and the last row behind which the thing is busy, None of one that never is."""
    rows = rows_with(t, busy_behind(program))
    if len(rows) == 0:
        return None
    return rows[0], rows[-1]


def in_one_stretch(program):
    """Whether each thing has a stretch and is busy behind each row of it."""
    busy = busy_behind(program)
    for t in range(len(program[0])):
        rows = rows_with(t, busy)
        if len(rows) == 0 or rows[-1] - rows[0] + 1 != len(rows):
            return False
    return True
