"""Programs as texts [16]."""

from frameshare.errors import BadRow, NoProgram
from frameshare.flows import is_program

FIGURES = "0123456789"
MOST_FIGURES = 10


def text_of_row(item):
    """The text of an item that is done by itself."""
    if item[0] != "row":
        return f"{item[0]} {item[1]}"
    word, reads, write = item
    first = "-" if write is None else str(write)
    return " ".join([word, first, *[str(t) for t in reads]])


def texts_of_items(items):
    """The list of the rows of the items' text."""
    told = []
    for item in items:
        if item[0] == "either":
            told.extend(["either", *texts_of_items(item[1]), "or", *texts_of_items(item[2]), "end"])
        elif item[0] == "round":
            told.extend(["round", *texts_of_items(item[1]), "end"])
        else:
            told.append(text_of_row(item))
    return told


def program_text(program):
    """The text of the program."""
    things, items = program
    return "\n".join([*[f"thing {size} {border}" for size, border in things], *texts_of_items(items)])


def is_written_number(word):
    """Whether it's a number as texts have it: at most ten plain figures, no nought ahead but in 0 itself."""
    if not 1 <= len(word) <= MOST_FIGURES or not all([sign in FIGURES for sign in word]):
        return False
    return word[0] != "0" or len(word) == 1


def are_numbers(words):
    """Whether all are numbers as texts have them."""
    return all([is_written_number(word) for word in words])


class Block:
    """Items that are read, a list for each side: of an either or a round by its word, of the program by none."""

    def __init__(self, word):
        self.word = word
        self.sides = [[]]


def add_to_last(blocks, item):
    """Add an item where the text stands."""
    blocks[-1].sides[-1].append(item)


def take_thing(words, things, blocks):
    """Take a row of a thing, which stands ahead of all items."""
    if len(words) != 3 or not are_numbers(words[1:]):
        return False
    if len(blocks) > 1 or len(blocks[0].sides[0]) > 0:
        return False
    things.append((int(words[1]), int(words[2])))
    return True


def take_row(words, things, blocks):
    """Take a row that reads and writes."""
    if len(words) < 2 or not are_numbers(words[2:]):
        return False
    if words[1] != "-" and not is_written_number(words[1]):
        return False
    write = None if words[1] == "-" else int(words[1])
    add_to_last(blocks, ("row", tuple([int(word) for word in words[2:]]), write))
    return True


def take_handing(words, things, blocks):
    """Take a row that hands out or takes back."""
    if len(words) != 2 or not are_numbers(words[1:]):
        return False
    add_to_last(blocks, (words[0], int(words[1])))
    return True


def take_begin(words, things, blocks):
    """Take the begin of an either or a round."""
    if len(words) != 1:
        return False
    blocks.append(Block(words[0]))
    return True


def take_or(words, things, blocks):
    """Take the row between both sides of an either."""
    if len(words) != 1 or blocks[-1].word != "either" or len(blocks[-1].sides) != 1:
        return False
    blocks[-1].sides.append([])
    return True


def take_end(words, things, blocks):
    """Take the end of an either, which has both sides by then, or of a round."""
    if len(words) != 1 or len(blocks) == 1:
        return False
    if blocks[-1].word == "either" and len(blocks[-1].sides) != 2:
        return False
    block = blocks.pop()
    add_to_last(blocks, (block.word, *[tuple(side) for side in block.sides]))
    return True


# Each tells whether the row is so written and can stand there, and adds what it says to things and blocks then.
TAKERS = {
    "thing": take_thing,
    "row": take_row,
    "give": take_handing,
    "back": take_handing,
    "either": take_begin,
    "round": take_begin,
    "or": take_or,
    "end": take_end,
}


def takes(row, things, blocks):
    """Whether the row is so written and can stand there; what it says is added to things and blocks then."""
    words = row.split(" ")
    if words[0] not in TAKERS:
        return False
    taker = TAKERS[words[0]]
    return taker(words, things, blocks)


def read_rows(rows):
    """The program, right or not, that these rows tell; refused with BadRow."""
    things = []
    blocks = [Block("")]
    for at, row in enumerate(rows):
        if not takes(row, things, blocks):
            raise BadRow(at)
    if len(blocks) > 1:
        raise BadRow(len(rows))
    return tuple(things), tuple(blocks[0].sides[0])


def read_program(text):
    """The program of the text; refused with BadRow, then with NoProgram."""
    program = read_rows([] if text == "" else text.split("\n"))
    if not is_program(program):
        raise NoProgram("no right program")
    return program
