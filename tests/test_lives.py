import unittest

from frameshare.lives import alive_behind, busy_behind, clashes, in_one_stretch, stretch_of
from tests.oracle import Oracle
from tests.samples import (
    CALLING, EMPTY, FORKED, HANDED, HOLLOW, LINE, LOOPED, QUIET, READ_A, READ_B, READ_C, SAMPLES, WRITE_A, WRITE_B,
    WRITE_C, made_programs, spread,
)

TRIO = ((4, 4), (8, 8), (2, 2))


class AliveTest(unittest.TestCase):
    def alive(self, items, told):
        self.assertEqual(alive_behind((TRIO, items)), told)

    def test_no_rows(self):
        self.assertEqual(alive_behind(EMPTY), [])
        self.alive((("round", ()), ("either", (), ())), [])

    def test_from_its_write_to_its_last_read(self):
        self.alive((WRITE_A, QUIET, READ_A, QUIET, READ_A, QUIET), [[0], [0], [0], [0], [], []])
        self.assertEqual(alive_behind(LINE), [[0], [0, 1], [2], []])

    def test_written_ahead_of_its_next_read(self):
        self.alive((WRITE_A, QUIET, WRITE_A, READ_A), [[], [], [0], []])
        self.alive((WRITE_A, READ_A, QUIET, WRITE_A, QUIET, READ_A), [[0], [], [], [0], [0], []])

    def test_a_row_reads_ahead_of_its_write(self):
        self.alive((WRITE_A, QUIET, ("row", (0,), 0), QUIET), [[0], [0], [], []])
        self.alive((WRITE_A, ("row", (0,), 0), READ_A), [[0], [0], []])

    def test_written_and_never_read(self):
        self.alive((WRITE_A, QUIET), [[], []])

    def test_a_give_counts_as_a_read(self):
        self.alive((WRITE_A, QUIET, ("give", 0), ("back", 0)), [[0], [0], [0], []])

    def test_a_back_does_not(self):
        self.alive((WRITE_A, ("give", 0), QUIET, ("back", 0), QUIET), [[0], [0], [0], [], []])

    def test_handed_out(self):
        self.alive((WRITE_A, ("give", 0), QUIET), [[0], [0], [0]])
        self.alive((WRITE_A, ("give", 0), WRITE_A, QUIET, ("back", 0), QUIET), [[0], [0], [0], [0], [], []])
        self.alive((WRITE_A, ("give", 0), ("back", 0), QUIET, READ_A), [[0], [0], [0], [0], []])
        self.alive((WRITE_A, ("give", 0), ("back", 0), WRITE_A, READ_A), [[0], [0], [], [0], []])

    def test_on_some_way(self):
        self.alive((WRITE_A, ("either", (QUIET,), (READ_A,)), QUIET), [[0], [], [], []])
        self.alive((WRITE_A, QUIET, ("either", (WRITE_A,), ()), READ_A), [[0], [0], [0], []])
        self.alive((WRITE_A, ("either", (WRITE_A,), (WRITE_A,)), READ_A), [[], [0], [0], []])
        self.alive((WRITE_A, ("round", (READ_A,)), QUIET), [[0], [0], []])
        self.alive((WRITE_A, ("round", (WRITE_A,)), READ_A), [[0], [0], []])

    def test_read_in_a_rounds_next_going(self):
        self.alive((WRITE_A, ("round", (READ_A, QUIET, QUIET)), QUIET), [[0], [0], [0], [0], []])
        self.assertEqual(alive_behind(LOOPED), [[0], [], [1], [0], []])

    def test_written_in_a_rounds_next_going(self):
        self.alive((("round", (WRITE_A, READ_A, QUIET)), QUIET), [[0], [], [], []])
        self.alive((WRITE_A, ("round", (WRITE_A, READ_A, QUIET))), [[], [0], [], []])

    def test_read_in_an_outer_rounds_next_going(self):
        inner = ("round", (QUIET,))
        self.alive((WRITE_A, ("round", (READ_A, inner)), QUIET), [[0], [0], [0], []])
        self.alive((WRITE_A, ("round", (("round", (READ_A,)), QUIET)), QUIET), [[0], [0], [0], []])
        self.alive((WRITE_A, ("round", (READ_A, ("round", (("round", (QUIET,)),)), WRITE_A))), [[0], [], [], [0]])

    def test_through_many_rounds(self):
        rounds = tuple(("round", (("row", (), t),)) for t in range(3))
        self.alive((WRITE_A, WRITE_B, WRITE_C) + rounds + (READ_A, READ_B, READ_C),
                   [[0], [0, 1], [0, 1, 2], [0, 1, 2], [0, 1, 2], [0, 1, 2], [1, 2], [2], []])

    def test_rising(self):
        self.alive((WRITE_C, WRITE_A, WRITE_B, ("row", (2, 1, 0), None)), [[2], [0, 2], [0, 1, 2], []])

    def test_calls(self):
        self.alive((WRITE_A, ("call", 0, (0,), 1), QUIET, ("call", 1, (1,), None), QUIET), [[0], [1], [1], [], []])
        self.alive((WRITE_A, ("call", 0, (), 0), READ_A), [[], [0], []])
        self.assertEqual(alive_behind(CALLING), [[0], [0, 1], [0, 1, 2], [0, 1, 2], [0, 1], [2], [], []])


class BusyTest(unittest.TestCase):
    def busy(self, items, told):
        self.assertEqual(busy_behind((TRIO, items)), told)

    def test_no_rows(self):
        self.assertEqual(busy_behind(EMPTY), [])

    def test_alive_or_just_written(self):
        self.assertEqual(busy_behind(LINE), [[0], [0, 1], [2], []])
        self.busy((WRITE_C, WRITE_A, READ_C), [[2], [0, 2], []])

    def test_just_written_and_never_read(self):
        self.busy((QUIET, WRITE_B, QUIET), [[], [1], []])
        self.busy((WRITE_B,), [[1]])
        self.busy((WRITE_A, WRITE_B, READ_A), [[0], [0, 1], []])

    def test_just_written_twice(self):
        self.busy((WRITE_A, QUIET, WRITE_A, QUIET), [[0], [], [0], []])

    def test_written_while_alive(self):
        self.busy((WRITE_A, ("row", (0,), 0), READ_A), [[0], [0], []])

    def test_handed_out(self):
        self.assertEqual(busy_behind(HANDED), [[0], [0], [0, 1], [0, 1], [0, 1], [0, 1], [0, 2], [2], []])

    def test_rounds(self):
        self.assertEqual(busy_behind(LOOPED), [[0], [], [1], [0], []])

    def test_eithers(self):
        self.assertEqual(busy_behind(FORKED), [[0], [0, 1], [0], [0], [0], [1]])

    def test_calls(self):
        self.busy((("call", 0, (), 1), ("call", 0, (), None), READ_B, ("call", 0, (), 2)), [[1], [1], [], [2]])


class ClashesTest(unittest.TestCase):
    def clash(self, items, told):
        self.assertEqual(clashes((TRIO, items)), told)

    def test_none(self):
        self.assertEqual(clashes(EMPTY), [])
        self.clash((), [])
        self.clash((WRITE_A, READ_A, WRITE_B, READ_B), [])
        self.clash((WRITE_A, ("row", (0,), 1), READ_B), [])
        self.assertEqual(clashes(LOOPED), [])

    def test_alive_at_once(self):
        self.clash((WRITE_A, WRITE_B, ("row", (1, 0), None)), [(0, 1)])
        self.clash((WRITE_C, WRITE_A, ("row", (0, 2), None)), [(0, 2)])

    def test_alive_and_just_written(self):
        self.clash((WRITE_C, WRITE_B, READ_C), [(1, 2)])

    def test_rising_pairs(self):
        self.clash((WRITE_C, WRITE_B, WRITE_A, READ_C, READ_B, READ_A), [(0, 1), (0, 2), (1, 2)])
        self.clash((WRITE_B, WRITE_C, READ_B, READ_C, WRITE_A, WRITE_B, READ_A), [(0, 1), (1, 2)])
        self.assertEqual(clashes(LINE), [(0, 1)])

    def test_handed_out(self):
        self.assertEqual(clashes(HANDED), [(0, 1), (0, 2)])

    def test_in_a_rounds_next_going(self):
        self.clash((WRITE_A, ("round", (READ_A, WRITE_B, READ_B))), [(0, 1)])

    def test_on_unlike_sides(self):
        self.clash((("either", (WRITE_A, READ_A), (WRITE_B, READ_B)),), [])

    def test_calls(self):
        self.clash((("call", 0, (), 0), ("call", 0, (), 2), ("call", 0, (0, 2), None)), [(0, 2)])
        self.assertEqual(clashes(CALLING), [(0, 1), (0, 2), (1, 2)])

    def test_more_than_ten_things(self):
        things = tuple((1, 1) for t in range(12))
        items = tuple(("row", (), t) for t in range(12)) + (("row", tuple(range(12)), None),)
        self.assertEqual(clashes((things, items)), [(t, u) for t in range(12) for u in range(t + 1, 12)])


class StretchTest(unittest.TestCase):
    def test_the_first_and_the_last_row(self):
        self.assertEqual([stretch_of(LINE, t) for t in range(3)], [(0, 1), (1, 1), (2, 2)])
        self.assertEqual([stretch_of(HANDED, t) for t in range(3)], [(0, 6), (2, 5), (6, 7)])
        self.assertEqual(stretch_of((TRIO, (WRITE_A, READ_A, WRITE_B, WRITE_A)), 0), (0, 3))

    def test_never_busy(self):
        self.assertIsNone(stretch_of((TRIO, (WRITE_A, READ_A)), 1))
        self.assertIsNone(stretch_of((TRIO, ()), 0))
        self.assertIsNone(stretch_of((TRIO, (QUIET,)), 2))

    def test_a_pair(self):
        self.assertIs(type(stretch_of(LINE, 0)), tuple)

    def test_calls(self):
        self.assertEqual([stretch_of(CALLING, t) for t in range(3)], [(0, 4), (1, 4), (2, 5)])


class InOneStretchTest(unittest.TestCase):
    def one(self, items, told):
        self.assertIs(in_one_stretch((TRIO[:2], items)), told)

    def test_no_things(self):
        self.assertIs(in_one_stretch(EMPTY), True)
        self.assertIs(in_one_stretch(((), (QUIET, QUIET))), True)

    def test_each_busy_behind_each_row_of_its_stretch(self):
        self.one((WRITE_A, WRITE_B, READ_A, READ_B), True)
        self.one((QUIET, WRITE_A, WRITE_B, QUIET), True)
        self.assertIs(in_one_stretch(LINE), True)

    def test_one_that_never_is_busy(self):
        self.one((WRITE_A, READ_A), False)
        self.one((WRITE_B,), False)
        self.one((), False)

    def test_a_gap(self):
        self.one((WRITE_A, WRITE_B, READ_B, WRITE_A), False)
        self.one((WRITE_B, WRITE_A, READ_B, READ_A, QUIET, WRITE_B), False)
        self.one((WRITE_B, QUIET, WRITE_B, WRITE_A), False)

    def test_samples(self):
        told = [in_one_stretch(program) for program in (FORKED, LOOPED, HANDED, HOLLOW, CALLING)]
        self.assertEqual(told, [False, False, True, True, False])

    def test_calls(self):
        self.one((("call", 0, (), 0), ("call", 0, (0,), 1)), True)
        self.one((("call", 0, (), 0), ("call", 0, (0,), 1), QUIET, ("call", 0, (), 0)), False)


class AgainstAllWaysTest(unittest.TestCase):
    def check(self, program):
        oracle = Oracle(program)
        self.assertEqual(alive_behind(program), [sorted(some) for some in oracle.alive], program)
        self.assertEqual(busy_behind(program), [sorted(some) for some in oracle.busy()], program)
        self.assertEqual(clashes(program), oracle.clashes(), program)
        self.assertIs(in_one_stretch(program), oracle.in_one_stretch(), program)
        for t in range(len(program[0])):
            self.assertEqual(stretch_of(program, t), oracle.stretch(t), (program, t))

    def test_samples(self):
        for program in SAMPLES + (CALLING,):
            self.check(program)

    def test_made_ones(self):
        for program in made_programs(300):
            self.check(program)

    def test_made_ones_that_call(self):
        for program in made_programs(200, True):
            self.check(program)

    def test_made_ones_of_many_things(self):
        for program in made_programs(200, True):
            self.check(spread(program))


if __name__ == "__main__":
    unittest.main()
