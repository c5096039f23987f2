"""What several files need of the items of a program [5].

A call [12] counts as a row here, with its reads and its write.
"""

ROW_WORDS = ("row", "give", "back", "call")


def is_row(item):
    """Whether the item is done by itself; an either and a round hold others instead."""
    return item[0] in ROW_WORDS


def sides_of(item):
    """The tuple of the tuples of items that an either or a round holds."""
    return item[1:]


def rows_in(items):
    """The list of the rows, as they stand, of either the first side's ahead."""
    rows = []
    for item in items:
        if is_row(item):
            rows.append(item)
        else:
            for side in sides_of(item):
                rows.extend(rows_in(side))
    return rows


def needs_of(row):
    """The list of the things that must be written ahead of the row: those that it reads or gives."""
    if row[0] == "row":
        return list(row[1])
    if row[0] == "call":
        return list(row[2])
    if row[0] == "give":
        return [row[1]]
    return []


def write_of(row):
    """The thing that the row writes, None where it writes none."""
    if row[0] == "row":
        return row[2]
    if row[0] == "call":
        return row[3]
    return None
