"""What DOC.md says of a program's text, told in another way: by patterns and by what is left when the inmost is cut."""

import re

NUMBER = r"(?:0|[1-9][0-9]{0,9})"
PATTERNS = {
    "thing": rf"thing {NUMBER} {NUMBER}",
    "row": rf"row (?:-|{NUMBER})(?: {NUMBER})*",
    "give": rf"give {NUMBER}",
    "back": rf"back {NUMBER}",
    "either": "either",
    "round": "round",
    "or": "or",
    "end": "end",
}
SIGNS = {"thing": "t", "row": ".", "give": ".", "back": ".", "either": "(", "or": "|", "end": ")", "round": "["}


def sign_of(row):
    """One sign for the kind of the row, None where it isn't written as told."""
    for kind, pattern in PATTERNS.items():
        if re.fullmatch(pattern, row):
            return SIGNS[kind]
    return None


def left_over(signs):
    """The signs without all eithers and rounds that are whole, each a row."""
    while True:
        shorter = re.sub(r"\(\.*\|\.*\)|\[\.*\)", ".", signs)
        if shorter == signs:
            return signs
        signs = shorter


def can_begin_a_text(signs):
    """Whether some text begins so: things, rows, and begins of eithers and rounds that are open."""
    return re.fullmatch(r"t*\.*(?:(?:\(\.*\|?|\[)\.*)*", left_over(signs)) is not None


def first_bad_row(text):
    """The number of the first row that isn't as told, as many as there are where an end is left out, None of none."""
    rows = text.split("\n") if text else []
    signs = ""
    for at, row in enumerate(rows):
        sign = sign_of(row)
        if sign is None or not can_begin_a_text(signs + sign):
            return at
        signs += sign
    return None if re.fullmatch(r"t*\.*", left_over(signs)) else len(rows)
