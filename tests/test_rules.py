import itertools
import unittest

from frameshare.bounds import bound
from frameshare.errors import BadWord, FrameError
from frameshare.lives import clashes, in_one_stretch
from frameshare.placings import is_placing
from frameshare.rules import order_by, placed, placed_by, roofs
from frameshare.things import height
from tests.oracle import Oracle
from tests.samples import (
    CALLING, EMPTY, HANDED, LINE, QUIET, READ_B, SAMPLES, WRITE_A, WRITE_B, all_pairs, made_frames, made_programs,
    spread, with_rows_for_calls,
)
from tests.slow import slow_placed, slow_roofs

WORDS = ("told", "great", "long", "early")
OTHER_WORDS = (
    "Great", "", " told", "tol", "told ", "TOLD", "greatest", "longer", "Early", "late", "0", "-", "told great",
)
# Busy are: behind row 0 the thing 3, behind 1 both 2 and 3, behind 2 the thing 2, behind 3 the thing 0; 1 and 4 never.
MIXED = (
    ((2, 1), (5, 2), (9, 4), (5, 8), (1, 1)),
    (("row", (), 3), ("row", (), 2), ("row", (3,), None), ("row", (2,), 0)),
)
GREAT = 10 ** 10 - 1


class OrderByTest(unittest.TestCase):
    def test_told(self):
        self.assertEqual(order_by(MIXED, "told"), [0, 1, 2, 3, 4])

    def test_great(self):
        self.assertEqual(order_by(MIXED, "great"), [2, 1, 3, 0, 4])

    def test_long(self):
        self.assertEqual(order_by(MIXED, "long"), [2, 3, 0, 1, 4])

    def test_early(self):
        self.assertEqual(order_by(MIXED, "early"), [3, 2, 0, 1, 4])

    def test_never_busy_ones_come_last(self):
        things = ((1, 1), (1, 1), (1, 1))
        self.assertEqual(order_by((things, (("row", (), 2),)), "early"), [2, 0, 1])
        self.assertEqual(order_by((things, (QUIET, ("row", (), 1))), "early"), [1, 0, 2])
        self.assertEqual(order_by((things, ()), "early"), [0, 1, 2])
        self.assertEqual(order_by((things, (("row", (), 2),)), "long"), [2, 0, 1])

    def test_like_ones(self):
        things = ((3, 1), (3, 8), (3, 4), (3, 2))
        items = (("row", (), 1), ("row", (), 0), ("row", (), 3), ("row", (), 2))
        told = [order_by((things, items), word) for word in WORDS]
        self.assertEqual(told, [[0, 1, 2, 3], [0, 1, 2, 3], [0, 1, 2, 3], [1, 0, 3, 2]])

    def test_borders_do_not_count(self):
        self.assertEqual(order_by((((2, 8), (4, 1), (3, 9)), ()), "great"), [1, 2, 0])

    def test_long_counts_rows_with_gaps(self):
        # The thing 0 is busy behind the rows 0 and 4, the thing 1 behind 1, 2 and 3.
        items = (WRITE_A, WRITE_B, QUIET, QUIET, ("row", (1,), 0))
        self.assertEqual(order_by((((1, 1), (1, 1)), items), "long"), [1, 0])

    def test_no_things(self):
        for word in WORDS:
            self.assertEqual(order_by(EMPTY, word), [])
            self.assertEqual(order_by(((), (QUIET, QUIET)), word), [])

    def test_other_words(self):
        for word in OTHER_WORDS:
            for program in (MIXED, EMPTY, CALLING):
                with self.assertRaises(BadWord) as caught:
                    order_by(program, word)
                self.assertIs(type(caught.exception), BadWord)
                self.assertIsInstance(caught.exception, FrameError)
                self.assertIsInstance(caught.exception, ValueError)

    def test_by_all_ways(self):
        for program in made_programs(150) + made_programs(100, True) + [spread(made) for made in made_programs(50)]:
            oracle = Oracle(program)
            many = range(len(program[0]))
            counts = [sum(t in busy for busy in oracle.busy()) for t in many]
            firsts = [oracle.stretch(t)[0] if oracle.stretch(t) else 1000 for t in many]
            self.assertEqual(order_by(program, "told"), list(many))
            self.assertEqual(order_by(program, "great"), sorted(many, key=lambda t: (-program[0][t][0], t)))
            self.assertEqual(order_by(program, "long"), sorted(many, key=lambda t: (-counts[t], t)), program)
            self.assertEqual(order_by(program, "early"), sorted(many, key=lambda t: (firsts[t], t)), program)


class PlacedTest(unittest.TestCase):
    def test_one_behind_the_other(self):
        things = ((4, 4), (6, 2), (3, 1))
        self.assertEqual(placed(things, all_pairs(3), [0, 1, 2]), [0, 4, 10])
        self.assertEqual(placed(things, all_pairs(3), [2, 1, 0]), [12, 4, 0])
        self.assertEqual(placed(things, all_pairs(3), [1, 2, 0]), [12, 0, 6])

    def test_into_the_gap_ahead_of_a_border(self):
        self.assertEqual(placed(((1, 1), (8, 8), (7, 1)), all_pairs(3), [0, 1, 2]), [0, 8, 1])
        self.assertEqual(placed(((1, 1), (8, 8), (8, 1)), all_pairs(3), [0, 1, 2]), [0, 8, 16])
        self.assertEqual(placed(((1, 1), (8, 8), (3, 4)), all_pairs(3), [0, 1, 2]), [0, 8, 4])

    def test_into_a_gap_between_two(self):
        # The thing 1 holds the thing 2 up, and is in no pair with the thing 3.
        things = ((2, 1), (4, 1), (2, 1), (4, 1), (1, 1))
        pairs = [(0, 1), (0, 2), (0, 3), (0, 4), (1, 2), (2, 3), (2, 4), (3, 4)]
        self.assertEqual(placed(things, pairs, [0, 1, 2, 3, 4]), [0, 2, 6, 2, 8])
        self.assertEqual(placed(things, pairs, [0, 1, 2, 4, 3]), [0, 2, 6, 8, 2])

    def test_a_gap_that_is_just_too_small(self):
        things = ((2, 1), (4, 1), (2, 1), (5, 1))
        self.assertEqual(placed(things, [(0, 1), (0, 2), (0, 3), (1, 2), (2, 3)], [0, 1, 2, 3]), [0, 2, 6, 8])

    def test_those_put_ahead_alone(self):
        self.assertEqual(placed(((2, 1), (2, 1)), [(0, 1)], [1, 0]), [2, 0])
        self.assertEqual(placed(((2, 1), (2, 1)), [(0, 1)], [0, 1]), [0, 2])

    def test_those_of_a_pair_alone(self):
        self.assertEqual(placed(((4, 4), (6, 2), (3, 1)), [], [2, 0, 1]), [0, 0, 0])
        self.assertEqual(placed(((4, 4), (6, 2), (3, 1)), [(1, 2)], [0, 1, 2]), [0, 0, 6])
        self.assertEqual(placed(((4, 4), (6, 2), (3, 1)), [(0, 2)], [0, 1, 2]), [0, 0, 4])

    def test_partners_that_lie_over_one_another(self):
        # The things 0, 1 and 2 share their rooms, the thing 3 is in a pair with each.
        pairs = [(0, 3), (1, 3), (2, 3)]
        self.assertEqual(placed(((9, 1), (2, 1), (5, 1), (1, 4)), pairs, [0, 1, 2, 3]), [0, 0, 0, 12])
        self.assertEqual(placed(((2, 1), (9, 1), (5, 1), (1, 1)), pairs, [2, 1, 0, 3]), [0, 0, 0, 9])

    def test_no_things(self):
        self.assertEqual(placed((), [], []), [])

    def test_great_ones(self):
        things = ((GREAT, 1), (1, GREAT), (GREAT, GREAT - 1), (3, 1))
        self.assertEqual(placed(things, all_pairs(4), [0, 1, 2, 3]), [0, GREAT, 2 * (GREAT - 1), GREAT + 1])
        self.assertEqual(placed(things, all_pairs(4), [3, 2, 1, 0]), [2 * GREAT + 1, 2 * GREAT, GREAT - 1, 0])

    def test_twenty_great_ones(self):
        things = tuple((10 ** 9 + t, 10 ** 9 - 7 * t) for t in range(20))
        order = list(range(20))
        places = placed(things, all_pairs(20), order)
        self.assertIs(is_placing(things, all_pairs(20), places), True)
        for place, roof in zip(places, roofs(things, all_pairs(20), order)):
            self.assertLessEqual(place, roof)

    def test_place_by_place(self):
        for things, pairs in made_frames(150, 5, 7, 5):
            for order in itertools.permutations(range(len(things))):
                order = list(order)
                self.assertEqual(placed(things, pairs, order), slow_placed(things, pairs, order))

    def test_place_by_place_of_many(self):
        for things, pairs in made_frames(120, 12, 9, 6):
            for step in (1, 5, 7):
                many = len(things)
                order = sorted(range(many), key=lambda t: (t * step % 11, t))
                self.assertEqual(placed(things, pairs, order), slow_placed(things, pairs, order))


class RoofsTest(unittest.TestCase):
    def test_by_hand(self):
        # (4 + 6 - 1) over 2 is 5 steps of 2; (4 + 3 - 1) and (6 + 3 - 1) over 1 are 6 and 8 steps of 1.
        things = ((4, 4), (6, 2), (3, 1))
        self.assertEqual(roofs(things, all_pairs(3), [0, 1, 2]), [0, 10, 14])
        # (6 + 4 - 1) over 4 is 3 steps of 4, (3 + 4 - 1) over 4 is 2; (3 + 6 - 1) over 2 is 4 steps of 2.
        self.assertEqual(roofs(things, all_pairs(3), [2, 1, 0]), [20, 8, 0])
        self.assertEqual(roofs(things, all_pairs(3), [1, 0, 2]), [12, 0, 14])

    def test_each_is_rounded_up_by_itself(self):
        # 1 + 1 - 1 is 1, over 8 one step each.
        self.assertEqual(roofs(((1, 1), (1, 1), (1, 8)), all_pairs(3), [0, 1, 2]), [0, 1, 16])

    def test_ones_of_size_and_border_1(self):
        self.assertEqual(roofs(((1, 1),) * 4, all_pairs(4), [3, 1, 0, 2]), [2, 1, 3, 0])

    def test_just_those_of_a_pair_that_are_ahead(self):
        things = ((4, 4), (6, 2), (3, 1))
        self.assertEqual(roofs(things, [], [0, 1, 2]), [0, 0, 0])
        self.assertEqual(roofs(things, [(0, 1)], [1, 2, 0]), [12, 0, 0])
        self.assertEqual(roofs(things, [(1, 2)], [0, 1, 2]), [0, 0, 8])
        self.assertEqual(roofs((), [], []), [])

    def test_step_by_step(self):
        for things, pairs in made_frames(150, 6, 9, 6):
            for step in (1, 3, 5):
                order = sorted(range(len(things)), key=lambda t: (t * step % 7, t))
                told = roofs(things, pairs, order)
                self.assertEqual(told, slow_roofs(things, pairs, order))
                self.assertIs(type(told), list)
                for place, roof in zip(placed(things, pairs, order), told):
                    self.assertLessEqual(place, roof)

    def test_great_ones(self):
        self.assertEqual(roofs(((GREAT, 1), (1, GREAT), (2, GREAT)), all_pairs(3), [0, 1, 2]), [0, GREAT, 3 * GREAT])


class PlacedByTest(unittest.TestCase):
    def test_by_hand(self):
        self.assertEqual([placed_by(LINE, word) for word in WORDS], [[0, 8, 0], [8, 0, 0], [0, 8, 0], [0, 8, 0]])
        told = [placed_by(HANDED, word) for word in WORDS]
        self.assertEqual(told, [[0, 8, 4], [8, 0, 0], [0, 8, 4], [0, 8, 4]])
        self.assertEqual(placed_by(EMPTY, "told"), [])

    def test_as_placed_by_the_order(self):
        for program in made_programs(100) + made_programs(100, True) + list(SAMPLES):
            pairs = Oracle(program).clashes()
            for word in WORDS:
                places = placed_by(program, word)
                self.assertEqual(places, slow_placed(program[0], pairs, order_by(program, word)))
                self.assertIs(is_placing(program[0], pairs, places), True)

    def test_other_words(self):
        for word in OTHER_WORDS:
            for program in (MIXED, EMPTY, CALLING):
                with self.assertRaises(BadWord) as caught:
                    placed_by(program, word)
                self.assertIs(type(caught.exception), BadWord)

    def test_alike_ones_in_one_stretch_reach_the_bound(self):
        met = 0
        for program in made_programs(500) + made_programs(100, True):
            many = len(program[0])
            for borders in ((1, 2, 3, 6), (6, 3, 2, 1), (6, 6, 6, 6)):
                things = tuple((6, borders[t]) for t in range(many))
                if in_one_stretch((things, program[1])):
                    met += many > 1
                    told = height(things, placed_by((things, program[1]), "early"))
                    self.assertEqual(told, bound((things, program[1]))[0], program)
        self.assertGreater(met, 20)

    def test_twenty_things_in_a_line(self):
        items = [("row", (), 0)]
        for t in range(1, 20):
            items.append(("row", (t - 1,), t))
        for t in range(80):
            items.append(("row", (19,), None))
        program = ((GREAT, 1),) * 20, tuple(items)
        self.assertEqual(placed_by(program, "early"), [0] * 20)
        self.assertEqual(len(order_by(program, "long")), 20)
        self.assertEqual(order_by(program, "long")[0], 19)


class CallsTest(unittest.TestCase):
    def test_a_call_is_a_row_with_its_reads_and_write(self):
        for program in [CALLING] + made_programs(200, True):
            plain = with_rows_for_calls(program)
            self.assertEqual(clashes(program), clashes(plain))
            for word in WORDS:
                self.assertEqual(order_by(program, word), order_by(plain, word))
                self.assertEqual(placed_by(program, word), placed_by(plain, word))

    def test_by_hand(self):
        things = ((2, 1), (3, 1), (4, 1))
        items = (("call", 0, (), 2), ("call", 1, (), 1), ("call", 0, (2,), 0), READ_B)
        self.assertEqual(order_by((things, items), "early"), [2, 1, 0])
        self.assertEqual(order_by((things, items), "long"), [1, 2, 0])
        self.assertEqual(placed_by((things, items), "early"), [0, 4, 0])


if __name__ == "__main__":
    unittest.main()
