import copy
import itertools
import unittest

from frameshare.ways import is_way, way_of
from tests.oracle import IN, OUT, count_rows, runs, ways
from tests.samples import (
    CALLING, EMPTY, FORKED, HANDED, HOLLOW, LINE, LOOPED, QUIET, SAMPLES, WRITE_A, made_programs,
)
from tests.wrongs import other_values

TRIO = ((4, 4), (8, 8), (2, 2))
ROUND_ALONE = (TRIO, (("round", (QUIET, WRITE_A)),))
EITHER_ALONE = (TRIO, (("either", (QUIET,), (WRITE_A, QUIET)),))
NESTED = (TRIO, (("round", (("either", (QUIET,), (("round", (WRITE_A,)),)), QUIET)), QUIET))


class WayOfTest(unittest.TestCase):
    def test_without_choices(self):
        self.assertEqual(way_of(EMPTY, []), [])
        self.assertEqual(way_of(LINE, []), [0, 1, 2, 3])
        self.assertEqual(way_of(FORKED, []), [0, 1, 2, 5])
        self.assertEqual(way_of(LOOPED, []), [0, 4])
        self.assertEqual(way_of(HANDED, []), [0, 1, 2, 6, 7, 8])
        self.assertEqual(way_of(HOLLOW, []), [])

    def test_choices_at_eithers(self):
        self.assertEqual(way_of(EITHER_ALONE, [0]), [0])
        self.assertEqual(way_of(EITHER_ALONE, [1]), [1, 2])
        self.assertEqual(way_of(FORKED, [0, 0]), [0, 1, 2, 5])
        self.assertEqual(way_of(FORKED, [0, 1]), [0, 1, 2, 4, 5])
        self.assertEqual(way_of(FORKED, [1, 0]), [0, 3, 5])
        self.assertEqual(way_of(FORKED, [1, 1]), [0, 3, 4, 5])

    def test_choices_ahead_of_a_round_and_behind_its_items(self):
        self.assertEqual(way_of(ROUND_ALONE, [0]), [])
        self.assertEqual(way_of(ROUND_ALONE, [1, 0]), [0, 1])
        self.assertEqual(way_of(ROUND_ALONE, [1, 1, 0]), [0, 1, 0, 1])
        self.assertEqual(way_of(LOOPED, [1, 1, 1, 0]), [0, 1, 2, 3, 1, 2, 3, 1, 2, 3, 4])

    def test_choices_within_a_round(self):
        self.assertEqual(way_of(NESTED, [1, 0, 1, 1, 1, 1, 0, 0]), [0, 2, 1, 1, 2, 3])
        self.assertEqual(way_of(NESTED, [1, 1, 0, 1, 0, 0]), [2, 0, 2, 3])

    def test_nought_where_none_is_left(self):
        self.assertEqual(way_of(FORKED, [1]), [0, 3, 5])
        self.assertEqual(way_of(ROUND_ALONE, [1]), [0, 1])
        self.assertEqual(way_of(LOOPED, [1, 1]), [0, 1, 2, 3, 1, 2, 3, 4])
        self.assertEqual(way_of(NESTED, [1, 1, 1]), [1, 2, 3])

    def test_more_choices_than_are_taken(self):
        self.assertEqual(way_of(EMPTY, [1, 0, 1]), [])
        self.assertEqual(way_of(LINE, [1, 1, 1, 1]), [0, 1, 2, 3])
        self.assertEqual(way_of(FORKED, [1, 0, 1, 1, 1]), [0, 3, 5])
        self.assertEqual(way_of(LOOPED, [0, 1, 1]), [0, 4])

    def test_a_round_without_rows_takes_its_choices(self):
        program = (TRIO, (("round", ()), ("either", (QUIET,), (WRITE_A,))))
        self.assertEqual(way_of(program, [1, 1, 0, 1]), [1])
        self.assertEqual(way_of(program, [1, 1, 1]), [0])
        self.assertEqual(way_of(program, [0, 1]), [1])
        self.assertEqual(way_of(program, [1, 0, 0]), [0])

    def test_an_either_without_rows_takes_its_choice(self):
        program = (TRIO, (("either", (), ()), ("either", (QUIET,), (WRITE_A,))))
        self.assertEqual(way_of(program, [1, 0]), [0])
        self.assertEqual(way_of(program, [0, 1]), [1])

    def test_calls(self):
        self.assertEqual(way_of(CALLING, []), [0, 1, 5, 6])
        self.assertEqual(way_of(CALLING, [1, 0, 1]), [0, 1, 2, 3, 4, 7])

    def test_two_hundred_choices(self):
        self.assertEqual(way_of(LOOPED, [1] * 200), [0] + [1, 2, 3] * 200 + [4])
        program = (TRIO, (("round", (("round", (QUIET,)),)),))
        self.assertEqual(way_of(program, [1] * 200), [0] * 199)
        self.assertEqual(way_of(program, [1, 0] * 100), [])
        self.assertEqual(way_of(program, [1, 1, 0] * 60), [0] * 60)

    def test_all_runs(self):
        for program in SAMPLES + (CALLING, NESTED) + tuple(made_programs(200)) + tuple(made_programs(100, True)):
            for choices, marks in runs(program[1]):
                way = [mark[0] for mark in marks if mark not in (IN, OUT)]
                self.assertEqual(way_of(program, choices), way, (program, choices))
                self.assertEqual(way_of(program, choices + [1, 0, 1]), way, (program, choices))
                while choices and choices[-1] == 0:
                    choices = choices[:-1]
                self.assertEqual(way_of(program, choices), way, (program, choices))


class IsWayTest(unittest.TestCase):
    def test_each_way(self):
        for program in SAMPLES + (CALLING, NESTED) + tuple(made_programs(200)) + tuple(made_programs(100, True)):
            for way in ways(program[1]):
                self.assertIs(is_way(program, [row for row, item in way]), True, (program, way))

    def test_what_way_of_tells(self):
        for many in range(8):
            for choices in itertools.product((0, 1), repeat=many):
                for program in (FORKED, LOOPED, HANDED, HOLLOW, CALLING, NESTED):
                    self.assertIs(is_way(program, way_of(program, list(choices))), True)
        self.assertIs(is_way(LOOPED, way_of(LOOPED, [1] * 200)), True)

    def test_all_short_lists(self):
        programs = [program for program in made_programs(300, False, 60) if count_rows(program[1]) <= 3]
        self.assertGreater(len(programs), 60)
        programs += [EMPTY, ROUND_ALONE, EITHER_ALONE, HOLLOW]
        for program in programs:
            told = {tuple(row for row, item in way) for way in ways(program[1], 3)}
            rows = range(count_rows(program[1]))
            for many in range(4):
                for some in itertools.product(rows, repeat=many):
                    self.assertIs(is_way(program, list(some)), some in told, (program, some))

    def test_the_empty_list(self):
        for program in (EMPTY, ROUND_ALONE, HOLLOW, (TRIO, (("either", (QUIET,), ()),)),
                        (TRIO, (("either", (), (QUIET,)), ("round", (QUIET,)))), (TRIO, (("round", ()),))):
            self.assertIs(is_way(program, []), True, program)
        for program in (LINE, FORKED, LOOPED, HANDED, CALLING, EITHER_ALONE, NESTED, (TRIO, (QUIET,)),
                        (TRIO, (("round", ()), QUIET)), (TRIO, (QUIET, ("round", ())))):
            self.assertIs(is_way(program, []), False, program)

    def test_a_row_left_out_twice_or_exchanged(self):
        for way in ([1, 2, 3], [0, 2, 3], [0, 1, 3], [0, 1, 2], [0, 0, 1, 2, 3], [0, 1, 1, 2, 3], [0, 1, 2, 3, 3],
                    [1, 0, 2, 3], [0, 2, 1, 3], [3, 2, 1, 0], [0, 1, 2, 3, 0], [0, 1, 2, 3, 0, 1, 2, 3]):
            self.assertIs(is_way(LINE, way), False, way)

    def test_a_way_cut_short(self):
        for way in ([0], [0, 1], [0, 1, 2], [0, 1, 2, 3], [0, 1, 2, 3, 1, 2], [1, 2, 3, 4], [4]):
            self.assertIs(is_way(LOOPED, way), False, way)
        self.assertIs(is_way(ROUND_ALONE, [0]), False)
        self.assertIs(is_way(ROUND_ALONE, [0, 1, 0]), False)
        self.assertIs(is_way(ROUND_ALONE, [1]), False)

    def test_both_sides(self):
        self.assertIs(is_way(EITHER_ALONE, [0, 1, 2]), False)
        self.assertIs(is_way(EITHER_ALONE, [1, 2, 0]), False)
        self.assertIs(is_way(FORKED, [0, 1, 2, 3, 5]), False)

    def test_numbers_that_are_no_rows(self):
        for row in (4, 5, 100, 10 ** 12, -1, -2, -4, -10 ** 12):
            for way in ([row], [0, 1, 2, row], [row, 1, 2, 3], [0, row, 2, 3], [0, 1, 2, 3, row]):
                self.assertIs(is_way(LINE, way), False, way)
        self.assertIs(is_way(EMPTY, [0]), False)

    def test_other_kinds_in_the_place_of_a_row(self):
        for row in other_values():
            if row not in (0, 1, 2, 3) or row is True or row is False:
                for way in ([row], [0, 1, 2, row], [row, 1, 2, 3], [0, row, 2, 3], [0, 1, row, 3], [0, 1, 2, 3, row]):
                    self.assertIs(is_way(LINE, way), False, way)
                self.assertIs(is_way(EMPTY, [row]), False, row)
        self.assertIs(is_way(LINE, [0, True, 2, 3]), False)
        self.assertIs(is_way(LINE, [False, 1, 2, 3]), False)
        self.assertIs(is_way(LINE, [0, 1, "2", 3]), False)
        self.assertIs(is_way(LINE, [0, 1, [2], 3]), False)
        self.assertIs(is_way(ROUND_ALONE, [0, True]), False)

    def test_other_kinds_in_the_place_of_the_list(self):
        for thing in [(), (0, 1, 2, 3), {0: 1}, "0123", "", {}, {0: 0, 1: 1, 2: 2, 3: 3}] + other_values():
            if not isinstance(thing, list):
                for program in (LINE, EMPTY, HOLLOW, ROUND_ALONE):
                    self.assertIs(is_way(program, thing), False, thing)
        self.assertIs(is_way(LINE, [[0, 1, 2, 3]]), False)

    def test_what_is_looked_at_stays(self):
        odd = [0, [1], {"a": [2]}]
        before = copy.deepcopy(odd)
        self.assertIs(is_way(LINE, odd), False)
        self.assertEqual(odd, before)


if __name__ == "__main__":
    unittest.main()
