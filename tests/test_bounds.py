import itertools
import unittest

from frameshare.bounds import best_stack, bound, crowd_bound, loads, stack
from frameshare.lives import clashes
from frameshare.rules import placed
from frameshare.things import height
from tests.oracle import Oracle
from tests.samples import (
    CALLING, EMPTY, FORKED, HANDED, HOLLOW, LINE, LOOPED, QUIET, READ_A, READ_B, SAMPLES, WRITE_A, WRITE_B,
    made_frames, made_programs, spread, with_rows_for_calls,
)
from tests.slow import slow_best_stack, slow_least, slow_stack, top

GREAT = 10 ** 10 - 1


class LoadsTest(unittest.TestCase):
    def test_by_hand(self):
        self.assertEqual(loads(LINE), [4, 12, 2, 0])
        self.assertEqual(loads(FORKED), [4, 12, 4, 4, 4, 8])
        self.assertEqual(loads(LOOPED), [4, 0, 8, 4, 0])
        self.assertEqual(loads(HANDED), [4, 4, 12, 12, 12, 12, 6, 2, 0])

    def test_no_rows(self):
        self.assertEqual(loads(EMPTY), [])
        self.assertEqual(loads((((4, 4),), (("round", ()), ("either", (), ())))), [])

    def test_nothing_busy(self):
        self.assertEqual(loads((((4, 4),), (QUIET, QUIET))), [0, 0])

    def test_borders_do_not_count(self):
        self.assertEqual(loads((((3, 8), (5, 16)), (WRITE_A, WRITE_B, READ_A, READ_B))), [3, 8, 5, 0])

    def test_by_all_ways(self):
        for program in made_programs(150) + made_programs(100, True) + [spread(made) for made in made_programs(50)]:
            told = [sum(program[0][t][0] for t in busy) for busy in Oracle(program).busy()]
            self.assertEqual(loads(program), told, program)
            self.assertEqual(bound(program), (max(told), told.index(max(told))) if told else (0, None), program)


class BoundTest(unittest.TestCase):
    def test_the_first_row_that_has_the_greatest(self):
        self.assertEqual(bound(LINE), (12, 1))
        self.assertEqual(bound(HANDED), (12, 2))
        self.assertEqual(bound(LOOPED), (8, 2))

    def test_the_first_of_rows_with_nothing_busy(self):
        self.assertEqual(bound((((4, 4),), (QUIET, QUIET))), (0, 0))
        self.assertEqual(bound(((), (QUIET,))), (0, 0))
        self.assertEqual(bound(HOLLOW), (1, 1))

    def test_no_rows(self):
        self.assertEqual(bound(EMPTY), (0, None))
        self.assertEqual(bound((((4, 4),), (("round", ()), ("either", (), ())))), (0, None))

    def test_it_is_a_pair(self):
        self.assertIs(type(bound(LINE)), tuple)
        self.assertIs(type(bound(EMPTY)), tuple)

    def test_great_ones(self):
        items = tuple(("row", (), t) for t in range(20)) + (("row", tuple(range(20)), None),)
        self.assertEqual(bound((((GREAT, GREAT),) * 20, items)), (20 * GREAT, 19))


class StackTest(unittest.TestCase):
    def test_all(self):
        self.assertEqual(stack(((4, 4), (6, 2), (3, 1)), [0, 1, 2]), [0, 4, 10])
        self.assertEqual(stack(((4, 4), (6, 2), (3, 1)), [2, 1, 0]), [0, 4, 12])
        self.assertEqual(stack(((4, 4), (6, 2), (3, 1)), [2, 0, 1]), [0, 4, 8])

    def test_the_places_stand_in_the_order(self):
        self.assertEqual(stack(((1, 1), (2, 1), (5, 1)), [2, 0, 1]), [0, 5, 6])

    def test_some(self):
        self.assertEqual(stack(((4, 4), (6, 2), (3, 1)), [1]), [0])
        self.assertEqual(stack(((4, 4), (6, 2), (3, 1)), [2, 0]), [0, 4])
        self.assertEqual(stack(((4, 4), (6, 2), (3, 1)), [1, 0]), [0, 8])

    def test_none(self):
        self.assertEqual(stack(((4, 4), (6, 2), (3, 1)), []), [])
        self.assertEqual(stack((), []), [])

    def test_great_ones(self):
        self.assertEqual(stack(((1, 1), (GREAT, GREAT), (1, GREAT - 1)), [0, 1, 2]), [0, GREAT, 3 * (GREAT - 1)])

    def test_room_by_room(self):
        for things, pairs in made_frames(100, 5, 9, 7):
            for many in range(len(things) + 1):
                for order in itertools.permutations(range(len(things)), many):
                    told = stack(things, list(order))
                    self.assertEqual(told, slow_stack(things, order))
                    self.assertIs(type(told), list)


class BestStackTest(unittest.TestCase):
    def test_none_and_one(self):
        self.assertEqual(best_stack(()), (0, []))
        self.assertEqual(best_stack(((5, 8),)), (5, [0]))
        self.assertEqual(best_stack(((GREAT, 3),)), (GREAT, [0]))

    def test_by_hand(self):
        self.assertEqual(best_stack(((1, 1), (8, 8))), (9, [1, 0]))
        self.assertEqual(best_stack(((4, 4), (6, 2), (3, 1))), (13, [0, 1, 2]))
        self.assertEqual(best_stack(((3, 1), (4, 4), (4, 8))), (11, [2, 1, 0]))

    def test_the_first_order_of_like_ones(self):
        self.assertEqual(best_stack(((2, 1), (2, 1), (2, 1))), (6, [0, 1, 2]))
        self.assertEqual(best_stack(((2, 2), (4, 4), (2, 2))), (8, [0, 2, 1]))
        self.assertEqual(best_stack(((1, 8),) * 7), (49, [0, 1, 2, 3, 4, 5, 6]))

    def test_by_all_orders(self):
        for things, pairs in made_frames(250, 5, 9, 8) + made_frames(20, 6, 5, 12):
            self.assertEqual(best_stack(things), slow_best_stack(things), things)

    def test_seven_by_all_orders(self):
        for things in (
            ((1, 2), (2, 3), (3, 5), (4, 7), (5, 11), (6, 1), (7, 4)),
            ((5, 7), (5, 11), (5, 2), (5, 3), (5, 5), (5, 1), (5, 4)),
        ):
            self.assertEqual(best_stack(things), slow_best_stack(things))

    def test_great_ones(self):
        things = ((1, GREAT), (GREAT, 1), (2, GREAT - 1), (GREAT - 2, 2))
        told, order = best_stack(things)
        self.assertEqual(told, min(top([things[t] for t in some], stack(things, list(some)))
                                   for some in itertools.permutations(range(4))))
        self.assertEqual(top([things[t] for t in order], stack(things, order)), told)

    def test_kinds(self):
        for things in ((), ((1, 1),), ((1, 1), (2, 2))):
            told = best_stack(things)
            self.assertIs(type(told), tuple)
            self.assertIs(type(told[1]), list)


class CrowdBoundTest(unittest.TestCase):
    def test_no_rows(self):
        self.assertEqual(crowd_bound(EMPTY), (0, None))
        self.assertEqual(crowd_bound((((4, 4),), (("round", ()), ("either", (), ())))), (0, None))

    def test_rows_with_nothing_busy(self):
        self.assertEqual(crowd_bound((((4, 4),), (QUIET, QUIET))), (0, 0))

    def test_by_hand(self):
        self.assertEqual(crowd_bound(LINE), (12, 1))
        self.assertEqual(crowd_bound(HANDED), (12, 2))
        # Of border 4 both: put on the other one, one of them ends at 9 or 11, though they are 8 together.
        program = (((3, 4), (5, 4)), (WRITE_A, WRITE_B, READ_A, READ_B))
        self.assertEqual(crowd_bound(program), (9, 1))
        self.assertEqual(bound(program), (8, 1))

    def test_the_first_such_row(self):
        program = (((3, 4), (5, 4)), (WRITE_A, WRITE_B, QUIET, QUIET, READ_A, READ_B))
        self.assertEqual(crowd_bound(program), (9, 1))

    def test_seven_busy_behind_a_hundred_rows(self):
        items = tuple(("row", (), t) for t in range(7)) + (QUIET,) * 92 + (("row", tuple(range(7)), None),)
        self.assertEqual(crowd_bound((((1, 8),) * 7, items)), (49, 6))

    def test_by_all_orders_of_what_is_busy(self):
        for program in made_programs(100) + made_programs(100, True) + list(SAMPLES):
            things = program[0]
            told = [slow_best_stack([things[t] for t in sorted(busy)])[0] for busy in Oracle(program).busy()]
            self.assertEqual(crowd_bound(program), (max(told), told.index(max(told))) if told else (0, None), program)

    def test_between_the_bound_and_all_placings(self):
        for program in made_programs(150) + made_programs(50, True):
            pairs = clashes(program)
            self.assertLessEqual(bound(program)[0], crowd_bound(program)[0])
            for order in itertools.permutations(range(len(program[0]))):
                places = placed(program[0], pairs, list(order))
                self.assertLessEqual(crowd_bound(program)[0], height(program[0], places))

    def test_no_placing_is_lower(self):
        for program in made_programs(60):
            self.assertLessEqual(crowd_bound(program)[0], slow_least(program[0], clashes(program)))

    def test_kinds(self):
        self.assertIs(type(crowd_bound(LINE)), tuple)
        self.assertIs(type(crowd_bound(EMPTY)), tuple)


class CallsTest(unittest.TestCase):
    def test_a_call_is_a_row_with_its_reads_and_write(self):
        for program in [CALLING] + made_programs(200, True):
            plain = with_rows_for_calls(program)
            self.assertEqual(loads(program), loads(plain))
            self.assertEqual(bound(program), bound(plain))
            self.assertEqual(crowd_bound(program), crowd_bound(plain))

    def test_by_hand(self):
        items = (("call", 0, (), 0), ("call", 1, (), 1), ("call", 0, (0, 1), None), ("call", 3, (), None))
        program = (((3, 4), (5, 4)), items)
        self.assertEqual(loads(program), [3, 8, 0, 0])
        self.assertEqual(bound(program), (8, 1))
        self.assertEqual(crowd_bound(program), (9, 1))


if __name__ == "__main__":
    unittest.main()
