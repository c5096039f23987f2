import unittest

from frameshare.errors import BadRow, FrameError, NoProgram
from frameshare.flows import is_program
from frameshare.texts import program_text, read_program
from tests.samples import (
    EMPTY, FORKED, HANDED, HOLLOW, LINE, LOOPED, QUIET, READ_A, SAMPLES, WRITE_A, WRITE_B, Dice, made_programs, spread,
)
from tests.slow_text import first_bad_row

GREAT = 10 ** 10 - 1
TWO = "thing 4 4\nthing 8 8"
WROTE = TWO + "\nrow 0\nrow 1"


class ProgramTextTest(unittest.TestCase):
    def test_without_things_and_items(self):
        self.assertEqual(program_text(EMPTY), "")

    def test_things_alone(self):
        self.assertEqual(program_text((((4, 8),), ())), "thing 4 8")
        self.assertEqual(program_text((((4, 8), (GREAT, 1), (1, GREAT)), ())),
                         "thing 4 8\nthing 9999999999 1\nthing 1 9999999999")

    def test_items_alone(self):
        self.assertEqual(program_text(((), (QUIET,))), "row -")
        self.assertEqual(program_text(((), (QUIET, QUIET))), "row -\nrow -")

    def test_rows(self):
        things = tuple((1, 1) for t in range(12))
        items = (WRITE_A, WRITE_B, ("row", (), 11), READ_A, ("row", (11, 0, 1), 10), ("row", (1, 0), 0))
        text = program_text((things, items))
        self.assertEqual(text.split("\n")[12:], ["row 0", "row 1", "row 11", "row - 0", "row 10 11 0 1", "row 0 1 0"])

    def test_handing(self):
        items = (WRITE_A, ("give", 0), ("back", 0))
        self.assertEqual(program_text((((4, 4),), items)), "thing 4 4\nrow 0\ngive 0\nback 0")

    def test_eithers_and_rounds(self):
        self.assertEqual(program_text(((), (("either", (), ()),))), "either\nor\nend")
        self.assertEqual(program_text(((), (("round", ()),))), "round\nend")
        self.assertEqual(program_text(((), (("either", (QUIET,), ()), QUIET))), "either\nrow -\nor\nend\nrow -")
        self.assertEqual(program_text(((), (("either", (), (QUIET,)), QUIET))), "either\nor\nrow -\nend\nrow -")
        self.assertEqual(program_text(((), (("round", (QUIET,)),))), "round\nrow -\nend")

    def test_within_one_another(self):
        items = (("round", (("either", (("round", ()), QUIET), (("either", (), ()),)), QUIET)), QUIET)
        self.assertEqual(program_text(((), items)).split("\n"), [
            "round", "either", "round", "end", "row -", "or", "either", "or", "end", "end", "row -", "end", "row -"])

    def test_samples(self):
        self.assertEqual(program_text(LOOPED), "\n".join([
            "thing 4 4", "thing 8 8", "row 0", "round", "row - 0", "row 1", "row 0 1", "end", "row - 0"]))
        self.assertEqual(program_text(FORKED), "\n".join([
            "thing 4 4", "thing 8 8", "row 0", "either", "row 1", "row - 1", "or", "row - 0", "end", "either", "or",
            "row - 0", "end", "row 1 0"]))


class ReadTest(unittest.TestCase):
    def reads(self, text, program):
        told = read_program(text)
        self.assertEqual(told, program)
        self.assert_tuples(told)
        self.assertEqual(program_text(told), text)

    def assert_tuples(self, told):
        """Nothing but tuples, texts, None and numbers, which True and False are none of."""
        self.assertIn(type(told), (tuple, str, int, type(None)))
        if type(told) is tuple:
            for part in told:
                self.assert_tuples(part)

    def test_without_signs(self):
        self.reads("", ((), ()))

    def test_each_kind(self):
        self.reads("thing 4 8", (((4, 8),), ()))
        self.reads("row -", ((), (QUIET,)))
        self.reads(WROTE + "\nrow - 1 0\nrow 0 1", (((4, 4), (8, 8)), (WRITE_A, WRITE_B, ("row", (1, 0), None),
                                                                      ("row", (1,), 0))))
        self.reads(WROTE + "\ngive 1\nback 1", (((4, 4), (8, 8)), (WRITE_A, WRITE_B, ("give", 1), ("back", 1))))
        self.reads("either\nor\nend", ((), (("either", (), ()),)))
        self.reads("either\nrow -\nor\nrow -\nrow -\nend\nrow -",
                   ((), (("either", (QUIET,), (QUIET, QUIET)), QUIET)))
        self.reads("round\nend\nround\nrow -\nend", ((), (("round", ()), ("round", (QUIET,)))))

    def test_samples(self):
        for program in SAMPLES + (LINE, HANDED, HOLLOW):
            self.reads(program_text(program), program)

    def test_made_ones(self):
        for program in made_programs(300):
            self.reads(program_text(program), program)
        for program in made_programs(60):
            self.reads(program_text(spread(program)), spread(program))

    def test_great_ones(self):
        self.reads("thing 9999999999 9999999999\nthing 1000000000 1", (((GREAT, GREAT), (10 ** 9, 1)), ()))

    def test_many_rows(self):
        things = tuple((GREAT - t, 1 + t) for t in range(20))
        everything = ("row", tuple(range(20)), 19)
        items = tuple(("row", (), t) for t in range(20)) + (everything,) * 60
        self.reads(program_text((things, items)), (things, items))
        for deep in (5, 20, 100):
            items = (QUIET,)
            for count in range(deep):
                items = (("either", items, (QUIET,)), ("round", ())) if count < 5 else (("round", items),)
            self.reads(program_text(((), items)), ((), items))

    def test_longer_than_four_hundred_rows(self):
        items = (WRITE_A,) + (READ_A,) * 1500
        self.reads(program_text((((1, 1),), items)), (((1, 1),), items))


class RefusedTest(unittest.TestCase):
    def bad(self, row, text):
        with self.assertRaises(FrameError) as caught:
            read_program(text)
        self.assertIs(type(caught.exception), BadRow, text)
        self.assertEqual(caught.exception.row, row, text)
        self.assertIs(type(caught.exception.row), int)

    def no_program(self, text):
        with self.assertRaises(FrameError) as caught:
            read_program(text)
        self.assertIs(type(caught.exception), NoProgram, text)

    def bad_after(self, row):
        """The row is at fault as the first one, and behind right ones."""
        self.bad(0, row)
        self.bad(2, TWO + "\n" + row)
        self.bad(4, WROTE + "\n" + row)
        self.bad(4, WROTE + "\n" + row + "\nrow -")
        self.bad(5, WROTE + "\nround\n" + row + "\nend")
        self.bad(6, WROTE + "\neither\nor\n" + row + "\nend")

    def test_blanks(self):
        for row in ("row  -", " row -", "row - ", "row -  0", "give  0", "back 0 ", " ", "  ", " either", "either ", "end ",
                    "or ", " round", "thing  4 4", "thing 4  4", "thing 4 4 ", " thing 4 4", "row ", "give ", "row\t-"):
            self.bad_after(row)

    def test_empty_rows(self):
        self.bad(0, "\n")
        self.bad(0, "\nrow -")
        self.bad(1, "row -\n")
        self.bad(1, "row -\n\nrow -")
        self.bad(2, TWO + "\n")
        self.bad(1, "round\n\nend")

    def test_words_that_are_none(self):
        for row in ("rows -", "Row -", "ROW -", "call 0 -", "if", "Either", "else", "things 4 4", "-", "0", "row-", "ends",
                    "thing,4,4", "~", "!", "row:-", "item"):
            self.bad_after(row)

    def test_one_word_too_many_or_few(self):
        for row in ("row", "give", "back", "give 0 1", "back 0 0", "either 0", "or -", "end 0", "round 0", "round -",
                    "give -", "back -", "either or end", "thing", "thing 4", "thing 4 4 4", "thing - 4", "thing 4 -"):
            self.bad_after(row)

    def test_a_word_too_many_where_the_row_could_stand(self):
        for more in (" ", " 0", " -", " or", " end"):
            self.bad(0, f"either{more}\nor\nend")
            self.bad(1, f"either\nor{more}\nend")
            self.bad(2, f"either\nor\nend{more}")
            self.bad(0, f"round{more}\nend")
            self.bad(1, f"round\nend{more}")

    def test_numbers(self):
        for number in ("00", "01", "007", "+1", "-1", "-0", "+0", "1.", "1.0", "1e3", "0x1", "1_0", "a", "1a", "a1", "--",
                       "12345678901", "99999999999", "10000000000", "00000000001", "1,", "(1)", "one", "None", "True"):
            for row in (f"row {number}", f"row - {number}", f"row - 0 {number}", f"row - {number} 0", f"row 0 {number}",
                        f"give {number}", f"back {number}"):
                self.bad_after(row)
            for row in (f"thing {number} 1", f"thing 1 {number}"):
                self.bad(0, row)
                self.bad(2, TWO + "\n" + row)
        self.bad_after("row - -")
        self.bad_after("row 0 -")

    def test_other_figures(self):
        for number in ("\u0661", "\u00b2", "\uff11", "1\u0661"):
            self.bad(0, f"thing {number} 1")
            self.bad(0, f"thing 1 {number}")
            self.bad(4, WROTE + f"\nrow - {number}")
            self.bad(4, WROTE + f"\ngive {number}")

    def test_a_thing_behind_an_item(self):
        self.bad(1, "row -\nthing 4 4")
        self.bad(5, WROTE + "\nrow - 0\nthing 4 4")
        self.bad(1, "round\nthing 4 4\nend")
        self.bad(1, "either\nthing 4 4\nor\nend")
        self.bad(2, "either\nor\nthing 4 4\nend")
        self.bad(2, "round\nend\nthing 4 4")
        self.bad(3, "thing 4 4\nrow 0\ngive 0\nthing 4 4")

    def test_an_or_or_end_without_its_begin(self):
        self.bad(0, "or")
        self.bad(0, "end")
        self.bad(2, TWO + "\nend")
        self.bad(1, "row -\nor")
        self.bad(2, "round\nend\nend")
        self.bad(3, "either\nor\nend\nend")
        self.bad(3, "either\nor\nend\nor")
        self.bad(1, "row -\nend\nrow -")

    def test_an_or_of_a_round(self):
        self.bad(1, "round\nor\nend")
        self.bad(2, "round\nrow -\nor\nend")
        self.bad(2, "either\nround\nor\nend\nor\nend")

    def test_a_further_or(self):
        self.bad(2, "either\nor\nor\nend")
        self.bad(4, "either\nrow -\nor\nrow -\nor\nend")
        self.bad(5, "either\nor\neither\nor\nend\nor\nend")

    def test_an_end_ahead_of_the_or(self):
        self.bad(1, "either\nend")
        self.bad(2, "either\nrow -\nend")
        self.bad(2, "round\neither\nend\nor\nend\nend")

    def test_ends_ahead_of_an_end(self):
        self.bad(1, "either")
        self.bad(1, "round")
        self.bad(2, "either\nor")
        self.bad(2, "round\nrow -")
        self.bad(3, "either\nround\nend")
        self.bad(4, "either\nor\nround\nend")
        self.bad(6, WROTE + "\nround\nround")
        self.bad(400, "\n".join(["round"] * 400))
        self.bad(201, "\n".join(["either"] + ["row -"] * 200))

    def test_the_first_one_at_fault(self):
        self.bad(1, "row -\nrow\nend\nor")
        self.bad(0, "row\nthing 4 4\nor")
        self.bad(1, "round\nor\nrow  -")
        self.bad(2, "either\nor\nthing 4 4")

    def test_no_right_programs(self):
        self.no_program("row 0")
        self.no_program("give 0")
        self.no_program("back 0")
        self.no_program("row - 0")
        self.no_program(TWO + "\nrow 2")
        self.no_program(WROTE + "\nrow - 2")
        self.no_program(WROTE + "\nrow - 0 9999999999")
        self.no_program(WROTE + "\ngive 2")
        self.no_program(WROTE + "\nback 2")
        self.no_program("thing 0 1")
        self.no_program("thing 1 0")
        self.no_program("thing 0 0")
        self.no_program(TWO + "\nthing 4 0")
        self.no_program(WROTE + "\nrow - 0 0")
        self.no_program(WROTE + "\nrow - 0 1 0")
        self.no_program(TWO + "\nrow - 0")
        self.no_program(TWO + "\nrow 0 0")
        self.no_program(TWO + "\nround\nrow 0\nend\nrow - 0")
        self.no_program(TWO + "\neither\nrow 0\nor\nend\nrow - 0")
        self.no_program(TWO + "\ngive 0")
        self.no_program(WROTE + "\nback 0")
        self.no_program(WROTE + "\ngive 0\ngive 0")
        self.no_program(WROTE + "\neither\ngive 0\nor\ngive 0\nend")
        self.no_program(WROTE + "\nround\ngive 0\nend")

    def test_deep_ones(self):
        for deep in (5, 19, 150):
            begin, end = "\n".join(["round"] * deep), "\n".join(["end"] * deep)
            self.no_program(TWO + "\n" + begin + "\nrow - 0\n" + end)
            self.bad(2 + 2 * deep, TWO + "\n" + begin + "\nrow - 0\n" + end[4:])
            self.bad(3 + 2 * deep, TWO + "\n" + begin + "\nrow - 0\n" + end + "\nend")

    def test_both_at_once(self):
        self.bad(1, "row 0\nrow")
        self.bad(1, "thing 0 1\nend")
        self.bad(2, "row 0\nround")
        self.bad(1, "thing 0 0\nthing 0 00")

    def test_refusals_stand_straight_under_frame_error(self):
        for text in ("row", "row 0"):
            with self.assertRaises(FrameError) as caught:
                read_program(text)
            self.assertEqual(type(caught.exception).__bases__, (FrameError,))

    def test_drawn_texts(self):
        """Each row as drawn from some, mostly as they may stand."""
        tokens = ("thing 1 1", "thing 2 1", "row 0", "row -", "row - 0", "row 1 0", "either", "or", "end", "end", "round",
                  "give 0", "back 0", "row", "or", "either", "thing 1", "")
        told = {"bad": 0, "none": 0, "right": 0}
        for seed in range(1, 12000):
            dice = Dice(seed)
            many = len(tokens) - (0 if dice.below(4) == 0 else 5)
            text = "\n".join(tokens[dice.below(many)] for count in range(1 + dice.below(9)))
            if text == "":
                continue
            row = first_bad_row(text)
            try:
                program = read_program(text)
            except BadRow as refusal:
                self.assertEqual(refusal.row, row, text)
                told["bad"] += 1
            except NoProgram:
                self.assertIsNone(row, text)
                told["none"] += 1
            else:
                self.assertIsNone(row, text)
                self.assertIs(is_program(program), True)
                self.assertEqual(program_text(program), text)
                told["right"] += 1
        self.assertGreater(min(told.values()), 100, told)

    def test_right_texts_with_a_row_changed(self):
        """By another way to find the first bad row."""
        tokens = ("thing 3 3", "row - ", "or", "end", "either", "round", "row 0 0", "give", "row 00", "", "row 4 1", "back 0")
        told = set()
        for seed, program in enumerate(made_programs(400), start=1):
            dice = Dice(seed)
            rows = program_text(program).split("\n")
            at = dice.below(len(rows))
            what = dice.below(4)
            if what == 0:
                rows.pop(at)
            elif what == 1:
                rows.insert(at, tokens[dice.below(len(tokens))])
            elif what == 2:
                rows[at] = tokens[dice.below(len(tokens))]
            else:
                other = dice.below(len(rows))
                rows[at], rows[other] = rows[other], rows[at]
            text = "\n".join(rows)
            row = first_bad_row(text)
            try:
                self.assertEqual(program_text(read_program(text)), text)
                found = None
            except BadRow as refusal:
                found = refusal.row
            except NoProgram:
                found = None
                told.add("none")
            self.assertEqual(found, row, text)
            told.add(found is None)
        self.assertEqual(told, {"none", True, False})


if __name__ == "__main__":
    unittest.main()
