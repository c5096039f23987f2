import unittest

from frameshare.bounds import bound
from frameshare.desk import run_desk
from frameshare.errors import BadRow, FrameError, NoProgram
from frameshare.flows import rows_of
from frameshare.least import least
from frameshare.lives import busy_behind, clashes
from frameshare.rules import placed_by
from frameshare.runner import marked, shows_wrong_run, wrong_run
from frameshare.texts import program_text
from frameshare.things import height
from frameshare.ways import way_of
from tests.samples import (
    EMPTY, FORKED, HANDED, HOLLOW, LINE, LOOPED, QUIET, READ_A, SAMPLES, WRITE_A, WRITE_B, Dice, made_programs,
)

WORDS = ("told", "great", "long", "early")
GREAT = 10 ** 10 - 1
BLANK = ""
# Rows: 0 writes A, 1 writes B, 2 reads A, 3 reads B.
CROSSED = (((4, 4), (8, 8)), (WRITE_A, WRITE_B, READ_A, ("row", (1,), None)))
# Three of the greatest things, all alive at once, so that one lies at a place of eleven figures.
SOLID = (((GREAT, 1), (GREAT, GREAT), (GREAT, 3)), (WRITE_A, WRITE_B, ("row", (), 2), ("row", (0, 1, 2), None)))


def desk_text(program, asks):
    """The desk's text of a program and asks."""
    rows = program_text(program).split("\n") if program != EMPTY else []
    return "\n".join(rows + [BLANK] + list(asks))


def joined(some):
    return " ".join(str(part) for part in some) or "-"


def told_by(program, ask):
    """The answer as the functions tell it."""
    word, *rest = ask.split(" ")
    numbers = [int(part) for part in rest if part.isdigit()]
    if word == "clashes":
        return joined(f"{t}:{u}" for t, u in clashes(program))
    if word == "busy":
        return joined(busy_behind(program)[numbers[0]])
    if word == "bound":
        return joined("-" if part is None else part for part in bound(program))
    if word == "place":
        return joined(placed_by(program, rest[0]))
    if word == "height":
        return str(height(program[0], placed_by(program, rest[0])))
    if word == "least":
        return str(least(program[0], clashes(program))[0]) if len(program[0]) <= 8 else "many"
    if word == "check":
        choices = wrong_run(program, numbers)
        return "right" if choices is None else " ".join(["wrong"] + [str(choice) for choice in choices])
    return joined(way_of(program, numbers))


class DeskCase(unittest.TestCase):
    def asks(self, program, *asks_and_answers):
        """Pairs of an ask and its answer, each alone and all together."""
        for ask, answer in asks_and_answers:
            self.assertEqual(run_desk(desk_text(program, [ask])), [answer], ask)
        told = run_desk(desk_text(program, [ask for ask, answer in asks_and_answers]))
        self.assertEqual(told, [answer for ask, answer in asks_and_answers])

    def refused(self, text):
        with self.assertRaises(FrameError) as caught:
            run_desk(text)
        return caught.exception

    def bad(self, row, text):
        refusal = self.refused(text)
        self.assertIs(type(refusal), BadRow, text)
        self.assertEqual(refusal.row, row, text)

    def no_program(self, text):
        self.assertIs(type(self.refused(text)), NoProgram, text)


class AnswersTest(DeskCase):
    def test_clashes(self):
        self.asks(CROSSED, ("clashes", "0:1"))
        self.asks(LINE, ("clashes", "0:1"))
        self.asks(LOOPED, ("clashes", "-"))
        self.asks(EMPTY, ("clashes", "-"))
        things = tuple((1, 1) for t in range(12))
        items = (("row", (), 11), ("row", (), 2), ("row", (), 10), ("row", (2, 10, 11), None))
        self.asks((things, items), ("clashes", "2:10 2:11 10:11"))

    def test_busy(self):
        self.asks(CROSSED, ("busy 0", "0"), ("busy 1", "0 1"), ("busy 2", "1"), ("busy 3", "-"))

    def test_bound(self):
        self.asks(CROSSED, ("bound", "12 1"))
        self.asks(EMPTY, ("bound", "0 -"))
        self.asks((((4, 4),), ()), ("bound", "0 -"))
        self.asks(((), (QUIET,)), ("bound", "0 0"))

    def test_place_and_height(self):
        self.asks(CROSSED, ("place told", "0 8"), ("place great", "8 0"), ("place long", "0 8"), ("place early", "0 8"),
                  ("height told", "16"), ("height great", "12"), ("height long", "16"), ("height early", "16"))
        self.asks(EMPTY, *[(f"place {word}", "-") for word in WORDS], *[(f"height {word}", "0") for word in WORDS])

    def test_least(self):
        self.asks(CROSSED, ("least", "12"))
        self.asks(EMPTY, ("least", "0"))
        eight = tuple((1 + t, 1) for t in range(8))
        writes = tuple(("row", (), t) for t in range(8))
        items = writes + (("row", tuple(range(8)), None),)
        self.asks((eight, items), ("least", "36"))
        self.asks((eight + ((9, 1),), items), ("least", "many"))
        self.asks((tuple((1, 1) for t in range(20)), ()), ("least", "many"))

    def test_check(self):
        self.asks(CROSSED, ("check 0 8", "right"), ("check 8 0", "right"), ("check 0 0", "wrong"), ("check 4 0", "wrong"),
                  ("check 12 8", "wrong"), ("check 16 8", "right"))
        self.asks(EMPTY, ("check", "right"))
        self.asks((((4, 4), (4, 4)), ()), ("check 0 0", "right"))

    def test_check_with_choices(self):
        # B is written, and A read behind it, on the second side of the second either alone.
        items = (WRITE_A, ("either", (QUIET,), (QUIET, QUIET)), ("either", (), (WRITE_B,)), ("either", (), (READ_A,)))
        program = (((4, 4), (8, 8)), items)
        for places in ([0, 0], [0, 8]):
            told, = run_desk(desk_text(program, [f"check {places[0]} {places[1]}"]))
            word, *choices = told.split(" ")
            if places == [0, 8]:
                self.assertEqual(told, "right")
            else:
                self.assertEqual(word, "wrong")
                choices = [int(choice) for choice in choices]
                self.assertEqual(choices, wrong_run(program, places))
                self.assertIs(shows_wrong_run(program, places, choices), True)
                self.assertEqual(choices[1:], [1, 1])

    def test_way(self):
        self.asks(LOOPED, ("way", "0 4"), ("way 0", "0 4"), ("way 1", "0 1 2 3 4"), ("way 1 1 0 1", "0 1 2 3 1 2 3 4"))
        self.asks(FORKED, ("way 1 1", "0 3 4 5"), ("way", "0 1 2 5"))
        self.asks(EMPTY, ("way", "-"), ("way 1 0", "-"))
        self.asks(HOLLOW, ("way", "-"), ("way 0 1 1 0 0 0", "0"))

    def test_places_of_ten_figures(self):
        self.asks(SOLID, ("check 9999999999 9999999999 9999999999", "wrong"), ("check 0 9999999999 9999999999", "wrong"),
                  ("check 1000000000 0 9999999999", "wrong"))
        self.asks((((1, 1), (5 * 10 ** 9, 1)), SOLID[1][:2] + (("row", (0, 1), None),)),
                  ("check 9999999999 0", "right"), ("check 9999999999 5000000000", "wrong"),
                  ("check 9999999999 4999999999", "right"))

    def test_answers_of_more_figures(self):
        for word in WORDS:
            places, top = run_desk(desk_text(SOLID, [f"place {word}", f"height {word}"]))
            self.assertEqual(places, joined(placed_by(SOLID, word)))
            self.assertEqual(max(len(place) for place in places.split(" ")), 11)
            self.assertEqual(top, str(height(SOLID[0], placed_by(SOLID, word))))

    def test_ninety_choices(self):
        self.asks(LOOPED, ("way " + " ".join(["1"] * 90), joined([0] + [1, 2, 3] * 90 + [4])))
        self.asks(LOOPED, ("way " + " ".join(["0"] * 90), "0 4"))
        self.asks(LOOPED, ("way " + " ".join(["1"] * 89 + ["0"]), joined([0] + [1, 2, 3] * 89 + [4])))

    def test_hundred_asks_and_more(self):
        asks = [f"busy {at}" for at in range(4)] + ["clashes", "bound", "least", "check 0 0", "check 0 8", "way"] * 30
        self.assertEqual(run_desk(desk_text(CROSSED, asks)), [told_by(CROSSED, ask) for ask in asks])
        self.assertEqual(run_desk(desk_text(EMPTY, ["least"] * 390)), ["0"] * 390)

    def test_many_asks_of_a_long_program(self):
        things = tuple((GREAT - 7 * t, 1 + t) for t in range(20))
        everything = ("row", tuple(range(20)), 3)
        items = tuple(("row", (), t) for t in range(20)) + (everything,) * 79 + (("round", (everything,)),)
        program = (things, items)
        asks = [f"busy {row}" for row in range(100)] + [f"place {word}" for word in WORDS] + ["bound", "least", "clashes"]
        self.assertEqual(run_desk(desk_text(program, asks)), [told_by(program, ask) for ask in asks])

    def test_without_an_empty_row(self):
        self.assertEqual(run_desk(""), [])
        self.assertEqual(run_desk("thing 4 4"), [])
        for program in SAMPLES:
            self.assertEqual(run_desk(program_text(program)), [])

    def test_without_asks(self):
        self.assertEqual(run_desk("thing 4 4\n"), [])
        for program in SAMPLES:
            if program != EMPTY:
                self.assertEqual(run_desk(program_text(program) + "\n"), [])

    def test_without_a_program(self):
        self.assertEqual(run_desk("\nclashes"), ["-"])
        self.assertEqual(run_desk("\nbound\nleast\nway\ncheck\nheight told"), ["0 -", "0", "-", "right", "0"])

    def test_answers_are_texts_in_a_list(self):
        told = run_desk(desk_text(CROSSED, ["least", "bound", "check 0 0", "height told"]))
        self.assertIs(type(told), list)
        self.assertEqual([type(answer) for answer in told], [str] * 4)

    def test_made_ones_as_the_functions_tell(self):
        for seed, program in enumerate(made_programs(250), start=1):
            dice = Dice(seed)
            asks = ["clashes", "bound", "least", "way"] + [f"busy {row}" for row in range(len(rows_of(program)))]
            asks += [f"{what} {word}" for what in ("place", "height") for word in WORDS]
            asks += [" ".join(["way"] + [str(dice.below(2)) for at in range(dice.below(9))]) for count in range(4)]
            asks += [" ".join(["check"] + [str(border * dice.below(4)) for size, border in program[0]])
                     for count in range(6)]
            told = run_desk(desk_text(program, asks))
            self.assertEqual(told, [told_by(program, ask) for ask in asks], program)
            for ask, answer in zip(asks, told):
                if answer.startswith("wrong"):
                    places = [int(part) for part in ask.split(" ")[1:]]
                    choices = [int(part) for part in answer.split(" ")[1:]]
                    self.assertEqual(marked(program, places, choices)[0], "wrong")

    def test_told_lists_are_the_askers_own(self):
        text = desk_text(CROSSED, ["clashes", "least"])
        told = run_desk(text)
        told.append("more")
        told[0] = ""
        self.assertEqual(run_desk(text), ["0:1", "12"])
        self.assertIsNot(run_desk(text), run_desk(text))


class RefusedDeskTest(DeskCase):
    # The program's text has six rows, so that the first ask is the row 7.
    def bad_ask(self, ask):
        self.bad(7, desk_text(CROSSED, [ask]))
        self.bad(7, desk_text(CROSSED, [ask, "clashes"]))
        self.bad(8, desk_text(CROSSED, ["clashes", ask]))
        self.bad(9, desk_text(CROSSED, ["least", "check 0 0", ask, "nothing"]))

    def test_the_programs_rows(self):
        self.bad(0, "row")
        self.bad(0, "row\n\nclashes")
        self.bad(1, "thing 4 4\nrow  0\n\nclashes")
        self.bad(1, "round")
        self.bad(1, "round\n\nend")
        self.bad(3, "thing 4 4\nround\nrow 0\n\nclashes")
        self.bad(0, "clashes")
        self.bad(1, "thing 4 4\nclashes\n\nclashes")
        self.bad(1, "thing 4 4\n thing 4 4\n")

    def test_no_program(self):
        self.no_program("row 0")
        self.no_program("row 0\n")
        self.no_program("row 0\n\nclashes")
        self.no_program("thing 4 4\nrow - 0\n\nleast")
        self.no_program("thing 0 4\n\nleast")

    def test_no_program_comes_ahead_of_asks(self):
        self.no_program("row 0\n\nnothing")
        self.no_program("row 0\n\n")
        self.no_program("thing 4 4\nrow - 0\n\ncheck\n\n")

    def test_the_programs_bad_row_comes_ahead_of_all(self):
        self.bad(1, "row 0\nrow\n\nnothing")
        self.bad(2, "row 0\nround\n\nnothing")

    def test_empty_rows_among_asks(self):
        self.bad(1, "\n")
        self.bad(1, "\n\n")
        self.bad(2, "thing 4 4\n\n")
        self.bad(2, "thing 4 4\n\n\nclashes")
        self.bad(3, "thing 4 4\n\nclashes\n")
        self.bad(3, "thing 4 4\n\nclashes\n\nbound")
        self.bad_ask("")

    def test_words_that_are_none(self):
        for ask in ("nothing", "Clashes", "clash", "row -", "thing 4 4", "-", "0", "end", "marked", "ways", "Least", "~"):
            self.bad_ask(ask)

    def test_one_word_too_many_or_few(self):
        for ask in ("clashes 0", "bound 0", "least 8", "busy", "busy 0 1", "place", "place told great", "height",
                    "height told 0", "clashes -"):
            self.bad_ask(ask)

    def test_blanks(self):
        for ask in (" clashes", "clashes ", "busy  0", "busy 0 ", " busy 0", "place  told", "place told ", "way ", "way  0",
                    "way 0  1", " way", "check 0  8", "check 0 8 ", " check 0 8", "least ", " ", "check  0 8", "bound\t"):
            self.bad_ask(ask)

    def test_a_row_that_is_not_there(self):
        for row in ("4", "5", "100", "9999999999", "-1", "00", "01", "+0", "-", "a", "0.", "99999999999", "\u0661"):
            self.bad_ask(f"busy {row}")
        self.bad(1, "\nbusy 0")
        self.bad(2, "thing 4 4\n\nbusy 0")

    def test_a_word_that_is_not_there(self):
        for word in ("Told", "tolds", "least", "0", "-", "GREAT", "late", "told,great"):
            self.bad_ask(f"place {word}")
            self.bad_ask(f"height {word}")

    def test_places_of_check(self):
        for places in ("0", "0 8 0", "0 8 0 0", "1 8", "0 4", "2 0", "0 12", "-4 8", "0 -8", "+0 8", "00 8", "0 08", "a 8",
                       "0 -", "- -", "0,8", "0 8.", "0 1", "4 9999999999"):
            self.bad_ask(f"check {places}")
        self.bad_ask("check")
        self.bad(1, "\ncheck 0")
        self.bad(2, "thing 1 1\n\ncheck")
        self.bad(2, "thing 1 1\n\ncheck 0 0")
        self.assertEqual(run_desk("thing 1 1\n\ncheck 7"), ["right"])

    def test_places_of_check_of_more_than_ten_figures(self):
        # Each border divides these places, so that nothing but their figures is at fault.
        for place in ("10000000000", "80000000000", "88888888888", "100000000000", "8" + "0" * 80):
            self.bad_ask(f"check {place} 8")
            self.bad_ask(f"check 0 {place}")
            self.bad_ask(f"check {place} {place}")
        self.bad_ask("check 0 00000000008")
        self.assertEqual(run_desk(desk_text(CROSSED, ["check 9999999996 9999999992"])), ["wrong"])
        self.bad(4, "thing 33100066 4\nthing 28810978 1\n\nbound\ncheck 4 10000000000\nheight early")

    def test_told_places_of_more_than_ten_figures(self):
        for word in WORDS:
            places = placed_by(SOLID, word)
            self.bad(8, desk_text(SOLID, [f"check {joined(places)}"]))
            self.assertIsNone(wrong_run(SOLID, places))

    def test_choices_of_way(self):
        for choices in ("2", "0 2", "2 0", "00", "01", "-1", "a", "0 1 -", "+1", "10", "0,1", "00000000001"):
            self.bad_ask(f"way {choices}")

    def test_the_first_ask_at_fault(self):
        self.bad(8, desk_text(CROSSED, ["least", "busy 9", "nothing", ""]))
        self.bad(7, desk_text(CROSSED, ["check 1 1", "busy 9"]))
        self.bad(106, desk_text(CROSSED, ["least"] * 99 + ["busy 4"] + ["busy 0"] * 20))

    def test_where_the_program_is_without_signs(self):
        self.bad(1, "\nnothing")
        self.bad(2, "\nclashes\nbusy 0")
        self.bad(2, "\nclashes\n")


if __name__ == "__main__":
    unittest.main()
