import unittest

from frameshare.flows import first_rows, given_behind, last_rows, next_rows, rows_of, written_ahead
from tests.oracle import Oracle
from tests.samples import (
    CALLING, EMPTY, FORKED, HANDED, HOLLOW, LINE, LOOPED, QUIET, READ_A, READ_B, READ_C, SAMPLES, WRITE_A, WRITE_B,
    WRITE_C, made_programs, spread,
)

TRIO = ((4, 4), (8, 8), (2, 2))
ALL = (rows_of, first_rows, last_rows, next_rows, written_ahead, given_behind)


def rising(sets):
    return [sorted(some) for some in sets]


class RowsTest(unittest.TestCase):
    def test_no_rows(self):
        for items in ((), (("round", ()),), (("either", (), ()), ("round", (("either", (), ()),)))):
            for tell in ALL:
                self.assertEqual(tell((TRIO, items)), [], tell)
                self.assertEqual(tell(((), items)), [], tell)

    def test_rows_as_they_stand(self):
        self.assertEqual(rows_of(LINE), [WRITE_A, ("row", (0,), 1), ("row", (1, 0), 2), READ_C])
        self.assertEqual(rows_of(FORKED), [WRITE_A, WRITE_B, READ_B, READ_A, READ_A, ("row", (0,), 1)])
        self.assertEqual(rows_of(LOOPED), [WRITE_A, READ_A, WRITE_B, ("row", (1,), 0), READ_A])
        self.assertEqual(
            rows_of(HANDED),
            [WRITE_A, ("give", 0), WRITE_B, ("back", 0), READ_B, ("give", 0), WRITE_C, ("back", 0), READ_C],
        )

    def test_the_first_sides_rows_stand_ahead(self):
        inner = ("either", (WRITE_C,), (QUIET, WRITE_A))
        self.assertEqual(
            rows_of((TRIO, (("either", (WRITE_B, inner), (("round", (WRITE_A, WRITE_C)),)), WRITE_B))),
            [WRITE_B, WRITE_C, QUIET, WRITE_A, WRITE_A, WRITE_C, WRITE_B],
        )

    def test_calls_as_they_stand(self):
        self.assertEqual(
            rows_of(CALLING),
            [WRITE_A, ("call", 0, (0,), 1), ("call", 1, (1, 0), 2), ("give", 2), ("back", 2), ("call", 0, (), 2),
             READ_C, ("call", 2, (1,), None)],
        )


class FlowTest(unittest.TestCase):
    def flow(self, program, firsts, lasts, nexts):
        self.assertEqual(first_rows(program), firsts)
        self.assertEqual(last_rows(program), lasts)
        self.assertEqual(next_rows(program), nexts)

    def test_one_row(self):
        self.flow((TRIO, (QUIET,)), [0], [0], [[]])

    def test_one_behind_the_other(self):
        self.flow(LINE, [0], [3], [[1], [2], [3], []])

    def test_a_round_goes_back_to_its_begin(self):
        self.flow(LOOPED, [0], [4], [[1, 4], [2], [3], [1, 4], []])
        self.flow((TRIO, (("round", (QUIET,)),)), [0], [0], [[0]])
        self.flow((TRIO, (("round", (QUIET, WRITE_A)),)), [0], [1], [[1], [0]])

    def test_a_round_may_not_be_gone(self):
        self.flow((TRIO, (("round", (QUIET,)), QUIET)), [0, 1], [1], [[0, 1], []])
        self.flow((TRIO, (QUIET, ("round", (QUIET,)))), [0], [0, 1], [[1], [1]])
        self.flow((TRIO, (QUIET, ("round", (QUIET,)), QUIET)), [0], [2], [[1, 2], [1, 2], []])
        self.flow((TRIO, (("round", (QUIET,)), ("round", (QUIET,)))), [0, 1], [0, 1], [[0, 1], [1]])

    def test_rounds_within_rounds(self):
        inner = ("round", (QUIET, QUIET))
        self.flow((TRIO, (("round", (inner,)),)), [0], [1], [[1], [0]])
        self.flow((TRIO, (("round", (QUIET, inner)),)), [0], [0, 2], [[0, 1], [2], [0, 1]])
        self.flow((TRIO, (("round", (inner, QUIET)),)), [0, 2], [2], [[1], [0, 2], [0, 2]])
        self.flow((TRIO, (("round", (("round", (("round", (QUIET,)),)),)), QUIET)), [0, 1], [1], [[0, 1], []])

    def test_eithers(self):
        self.flow(FORKED, [0], [5], [[1, 3], [2], [4, 5], [4, 5], [5], []])
        self.flow((TRIO, (("either", (QUIET,), (QUIET, QUIET)),)), [0, 1], [0, 2], [[], [2], []])
        self.flow((TRIO, (("either", (QUIET,), (QUIET,)), QUIET)), [0, 1], [2], [[2], [2], []])

    def test_a_side_without_rows(self):
        self.flow((TRIO, (QUIET, ("either", (), (QUIET,)), QUIET)), [0], [2], [[1, 2], [2], []])
        self.flow((TRIO, (QUIET, ("either", (QUIET,), ()), QUIET)), [0], [2], [[1, 2], [2], []])
        self.flow((TRIO, (("either", (QUIET,), ()), QUIET)), [0, 1], [1], [[1], []])
        self.flow((TRIO, (("either", (), (QUIET,)), QUIET)), [0, 1], [1], [[1], []])
        self.flow((TRIO, (QUIET, ("either", (QUIET,), ()))), [0], [0, 1], [[1], []])
        self.flow((TRIO, (QUIET, ("either", (), ()), ("round", ()), QUIET)), [0], [1], [[1], []])

    def test_eithers_in_rounds(self):
        items = (("round", (("either", (QUIET,), (QUIET,)),)), QUIET)
        self.flow((TRIO, items), [0, 1, 2], [2], [[0, 1, 2], [0, 1, 2], []])
        items = (("round", (("either", (QUIET,), ()), ("either", (), (QUIET,)))),)
        self.flow((TRIO, items), [0, 1], [0, 1], [[0, 1], [0, 1]])
        self.flow(HOLLOW, [0, 1], [0, 1], [[0, 1], [0, 1]])

    def test_what_hands_out_is_a_row_as_well(self):
        self.flow(HANDED, [0], [8], [[1], [2], [3, 6], [4], [5], [3, 6], [7], [8], []])

    def test_more_rows_than_ten(self):
        items = (("round", tuple([QUIET] * 12)), ("either", (QUIET,), ()), QUIET)
        self.flow(
            (TRIO, items), [0, 12, 13], [13],
            [[row + 1] for row in range(11)] + [[0, 12, 13], [13], []],
        )

    def test_calls(self):
        self.flow(CALLING, [0], [6, 7], [[1], [2, 5, 7], [3], [4], [2, 5, 7], [6], [], []])


class WrittenTest(unittest.TestCase):
    def written(self, items, told):
        self.assertEqual(written_ahead((TRIO, items)), told)

    def test_for_each_row(self):
        self.assertEqual(written_ahead(LINE), [[], [0], [0, 1], [0, 1, 2]])
        self.written((WRITE_C, WRITE_A, WRITE_C, WRITE_B, QUIET), [[], [2], [0, 2], [0, 2], [0, 1, 2]])
        self.written((WRITE_B,), [[]])

    def test_a_row_that_writes_what_it_reads(self):
        self.written((WRITE_A, ("row", (0,), 0), QUIET), [[], [0], [0]])

    def test_both_sides(self):
        self.written((("either", (WRITE_A, WRITE_B), (WRITE_B,)), QUIET), [[], [0], [], [1]])
        self.written((("either", (WRITE_A,), (WRITE_B,)), QUIET), [[], [], []])
        self.written((WRITE_C, ("either", (WRITE_A,), ()), QUIET), [[], [2], [2]])
        self.written((WRITE_C, ("either", (), (WRITE_A,)), QUIET), [[], [2], [2]])
        self.written((WRITE_C, ("either", (WRITE_A,), (WRITE_A,)), QUIET), [[], [2], [2], [0, 2]])

    def test_rounds(self):
        self.written((WRITE_A, ("round", (READ_A, WRITE_B, QUIET)), QUIET), [[], [0], [0], [0, 1], [0]])
        self.written((("round", (WRITE_A, ("round", (WRITE_B, QUIET)), QUIET)),), [[], [0], [0, 1], [0]])
        self.assertEqual(written_ahead(LOOPED), [[], [0], [0], [0, 1], [0]])

    def test_what_hands_out_writes_nothing(self):
        self.written((WRITE_B, ("give", 1), ("back", 1), QUIET), [[], [1], [1], [1]])

    def test_calls_write(self):
        self.assertEqual(
            written_ahead(CALLING), [[], [0], [0, 1], [0, 1, 2], [0, 1, 2], [0, 1], [0, 1, 2], [0, 1]],
        )


class GivenTest(unittest.TestCase):
    def test_none(self):
        self.assertEqual(given_behind(LINE), [[], [], [], []])

    def test_for_each_row(self):
        self.assertEqual(given_behind(HANDED), [[], [0], [0], [], [], [0], [0], [], []])
        items = (WRITE_B, ("give", 1), WRITE_A, ("give", 0), ("back", 1), ("give", 1), ("back", 0))
        self.assertEqual(given_behind((TRIO, items)), [[], [1], [1], [0, 1], [0], [0, 1], [1]])

    def test_both_sides_and_rounds(self):
        items = (
            WRITE_A, WRITE_C, ("give", 2),
            ("either", (("give", 0), QUIET, ("back", 0)), (("back", 2), QUIET, ("give", 2))), QUIET,
            ("round", (("back", 2), ("give", 0), ("give", 2), ("back", 0))), QUIET,
        )
        self.assertEqual(
            given_behind((TRIO, items)),
            [[], [], [2], [0, 2], [0, 2], [2], [], [], [2], [2], [], [0], [0, 2], [2], [2]],
        )

    def test_calls_hand_nothing_out(self):
        self.assertEqual(given_behind(CALLING), [[], [], [], [2], [], [], [], []])


class AgainstAllWaysTest(unittest.TestCase):
    def check(self, program):
        oracle = Oracle(program)
        self.assertEqual(rows_of(program), oracle.rows, program)
        self.assertEqual(first_rows(program), oracle.firsts, program)
        self.assertEqual(last_rows(program), oracle.lasts, program)
        self.assertEqual(next_rows(program), rising(oracle.nexts), program)
        self.assertEqual(written_ahead(program), rising(oracle.written), program)
        self.assertEqual(given_behind(program), rising(oracle.given), program)

    def test_samples(self):
        for program in SAMPLES + (CALLING,):
            self.check(program)

    def test_made_ones(self):
        for program in made_programs(300):
            self.check(program)

    def test_made_ones_that_call(self):
        for program in made_programs(200, True):
            self.check(program)

    def test_made_ones_of_many_things(self):
        for program in made_programs(200, True):
            self.check(spread(program))


class GreatTest(unittest.TestCase):
    def test_twenty_things_and_a_hundred_rows(self):
        things = tuple((10 ** 10 - 1, 10 ** 10 - 1) for t in range(20))
        writes = tuple(("row", (), 19 - t) for t in range(20))
        body = tuple(("row", (t,), t) for t in range(20)) * 4
        program = (things, writes + (("round", (("round", (("round", (("round", body),)),)),)),))
        self.assertEqual(len(rows_of(program)), 100)
        self.assertEqual(next_rows(program)[99], [20])
        self.assertEqual(next_rows(program)[19], [20])
        self.assertEqual(last_rows(program), [19, 99])
        self.assertEqual(written_ahead(program)[19], list(range(1, 20)))
        self.assertEqual(written_ahead(program)[20], list(range(20)))

    def test_empty(self):
        for tell in ALL:
            self.assertEqual(tell(EMPTY), [])


if __name__ == "__main__":
    unittest.main()
