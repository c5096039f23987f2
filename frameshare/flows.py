"""Programs, their rows, and what may be done one behind the other [5]."""

from frameshare.items import is_row, needs_of, rows_in, sides_of, write_of
from frameshare.shapes import has_shape


def is_program(thing):
    """Whether it's a right program."""
    return is_function(thing, 0)


def is_function(thing, ahead):
    """Whether it's a right program whose items may call so many functions ahead of it, too."""
    return has_shape(thing, ahead) and finds_written(thing) and given_by(thing[1], []) is not None


def finds_written(program):
    """Whether each row finds all written ahead that it reads or gives."""
    for row, ahead in zip(rows_of(program), written_ahead(program)):
        if len(set(needs_of(row)) - set(ahead)) > 0:
            return False
    return True


def given_by(items, given):
    """The rising list of what is handed out behind the items, with this ahead; None where they hand out wrongly."""
    for item in items:
        if is_row(item):
            given = given_by_row(item, given)
            if given is None:
                return None
        else:
            for side in sides_of(item):
                if given_by(side, given) != given:
                    return None
    return given


def given_by_row(row, given):
    """The rising list of what is handed out behind the row, with this ahead; None where it hands out wrongly."""
    if row[0] == "give":
        return None if row[1] in given else sorted([*given, row[1]])
    if row[0] == "back":
        return [t for t in given if t != row[1]] if row[1] in given else None
    return given


def rows_of(program):
    """The list of the rows."""
    return rows_in(program[1])


def link(lasts, firsts, nexts):
    """Note that each of the firsts may be done straight behind each of the lasts."""
    for last in lasts:
        nexts[last].extend(firsts)


def flow_of_item(item, nexts):
    """The same of one item as flow_of_items tells of several."""
    if is_row(item):
        row = len(nexts)
        nexts.append([])
        return [row], [row], False
    firsts, lasts, empty = flow_of_items(item[1], nexts)
    if item[0] == "round":
        link(lasts, firsts, nexts)
        return firsts, lasts, True
    heads, tails, hollow = flow_of_items(item[2], nexts)
    return firsts + heads, lasts + tails, empty or hollow


def flow_of_items(items, nexts):
    """(firsts, lasts, empty): the rows with which these items may begin and end, whether they may be without rows.

    The rows that they have are added to nexts, each with those that may be done straight behind it within them.
    """
    firsts, lasts, empty = [], [], True
    for item in items:
        heads, tails, hollow = flow_of_item(item, nexts)
        link(lasts, heads, nexts)
        if empty:
            firsts = firsts + heads
        lasts = lasts + tails if hollow else tails
        empty = empty and hollow
    return firsts, lasts, empty


def first_rows(program):
    """The rising list of the rows with which a way may begin."""
    firsts, lasts, empty = flow_of_items(program[1], [])
    return firsts


def last_rows(program):
    """The rising list of the rows with which a way may end."""
    firsts, lasts, empty = flow_of_items(program[1], [])
    return lasts


def goes_without_rows(program):
    """Whether a way may be without rows."""
    firsts, lasts, empty = flow_of_items(program[1], [])
    return empty


def next_rows(program):
    """The list, for each row, of the rising list of those that may be done straight behind it."""
    nexts = []
    flow_of_items(program[1], nexts)
    # Rounds within one another note the same row more than once.
    return [sorted(set(rows)) for rows in nexts]


def note_written(items, written, told):
    """The rising list of what is written behind the items on all ways, with this ahead.

    For each of their rows what is written ahead of it is added to told.
    """
    for item in items:
        if is_row(item):
            told.append(list(written))
            if write_of(item) is not None:
                written = sorted(set([*written, write_of(item)]))
        elif item[0] == "either":
            one = note_written(item[1], written, told)
            other = note_written(item[2], written, told)
            written = sorted(set(one) & set(other))
        else:
            # A round may not be gone at all, so that nothing is written behind it for sure but what was ahead.
            note_written(item[1], written, told)
    return written


def written_ahead(program):
    """The list, for each row, of the rising list of the things that are written on all ways ahead of it."""
    told = []
    note_written(program[1], [], told)
    return told


def given_behind(program):
    """The list, for each row, of the rising list of the things that are handed out behind it."""
    told = []
    given = []
    # Each side hands out at its end what it did at its begin, so that the rows' own order leads through all of them.
    for row in rows_of(program):
        given = given_by_row(row, given)
        told.append(list(given))
    return told
