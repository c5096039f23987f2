"""A desk that answers asks of a program, all in texts [17]."""

from frameshare.bounds import bound
from frameshare.errors import BadRow
from frameshare.flows import rows_of
from frameshare.least import MOST_THINGS, least
from frameshare.lives import busy_behind, clashes
from frameshare.rules import WORDS, placed_by
from frameshare.runner import wrong_run
from frameshare.texts import are_numbers, is_written_number, read_program
from frameshare.things import height
from frameshare.ways import way_of


def by_blanks(some):
    """Some numbers or texts by blanks, `-` of none."""
    return "-" if len(some) == 0 else " ".join([str(part) for part in some])


def numbers_of(words):
    """The list of the numbers that the words are."""
    return [int(word) for word in words]


def asks_nothing_more(program, words):
    """Whether nothing stands behind the ask's first word."""
    return len(words) == 1


def asks_of_row(program, words):
    """Whether one row that is there stands behind the ask's first word."""
    return len(words) == 2 and is_written_number(words[1]) and int(words[1]) < len(rows_of(program))


def asks_by_rule(program, words):
    """Whether one word of a rule stands behind the ask's first word."""
    return len(words) == 2 and words[1] in WORDS


def asks_of_places(program, words):
    """Whether a place for each thing, that its border divides, stands behind the ask's first word."""
    things = program[0]
    if len(words) != len(things) + 1 or not are_numbers(words[1:]):
        return False
    return all([place % border == 0 for (size, border), place in zip(things, numbers_of(words[1:]))])


def asks_by_choices(program, words):
    """Whether choices alone stand behind the ask's first word."""
    return all([word in ("0", "1") for word in words[1:]])


def tell_clashes(program, words):
    """The pairs of things that clash."""
    return by_blanks([f"{t}:{u}" for t, u in clashes(program)])


def tell_busy(program, words):
    """The things that are busy behind a row."""
    return by_blanks(busy_behind(program)[int(words[1])])


def tell_bound(program, words):
    """The greatest load and the first row that has it."""
    load, row = bound(program)
    return f"{load} -" if row is None else f"{load} {row}"


def tell_place(program, words):
    """The places by a rule."""
    return by_blanks(placed_by(program, words[1]))


def tell_height(program, words):
    """The height of the places by a rule."""
    return str(height(program[0], placed_by(program, words[1])))


def tell_least(program, words):
    """The least height of a placing, `many` where there are too many things for it."""
    if len(program[0]) > MOST_THINGS:
        return "many"
    return str(least(program[0], clashes(program))[0])


def tell_check(program, words):
    """Whether places are right on each run, and choices that show it where they aren't."""
    choices = wrong_run(program, numbers_of(words[1:]))
    return "right" if choices is None else by_blanks(["wrong", *choices])


def tell_way(program, words):
    """The way that is gone by choices."""
    return by_blanks(way_of(program, numbers_of(words[1:])))


# Whether an ask, by its first word, is so written.
CHECKS = {
    "clashes": asks_nothing_more,
    "busy": asks_of_row,
    "bound": asks_nothing_more,
    "place": asks_by_rule,
    "height": asks_by_rule,
    "least": asks_nothing_more,
    "check": asks_of_places,
    "way": asks_by_choices,
}

TELLERS = {
    "clashes": tell_clashes,
    "busy": tell_busy,
    "bound": tell_bound,
    "place": tell_place,
    "height": tell_height,
    "least": tell_least,
    "check": tell_check,
    "way": tell_way,
}


def is_ask(program, row):
    """Whether the row is an ask that is so written."""
    words = row.split(" ")
    if words[0] not in CHECKS:
        return False
    is_right = CHECKS[words[0]]
    return is_right(program, words)


def answer_of(program, ask):
    """The answer of one ask."""
    words = ask.split(" ")
    tell = TELLERS[words[0]]
    return tell(program, words)


def run_desk(text):
    """The list of the answers; refused as read_program, then with BadRow for the first ask that isn't so written."""
    rows = text.split("\n")
    begin = rows.index("") if "" in rows else len(rows)
    program = read_program("\n".join(rows[:begin]))
    asks = rows[begin + 1:]
    for at, row in enumerate(asks, start=begin + 1):
        if not is_ask(program, row):
            raise BadRow(at)
    # The same ask may come often, and is answered once.
    answers = {ask: answer_of(program, ask) for ask in sorted(set(asks))}
    return [answers[ask] for ask in asks]
