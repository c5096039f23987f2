import copy
import itertools
import unittest

from frameshare.errors import FrameError, TooMany
from frameshare.least import is_least, least
from frameshare.placings import is_placing
from frameshare.things import height, is_number
from tests.samples import all_pairs, made_frames
from tests.slow import least_by_orders, slow_best_stack, slow_least, slow_placed, top
from tests.wrongs import nested, other_values

GREAT = 10 ** 10 - 1
TRIO = ((4, 4), (6, 2), (3, 1))
# Each in a pair with the next one, the last one with the first one.
RING = [(0, 1), (0, 4), (1, 2), (2, 3), (3, 4)]


def check(case, things, pairs):
    """The told height, behind a look at the told places."""
    told = least(things, pairs)
    case.assertIs(type(told), tuple)
    case.assertEqual(len(told), 2)
    case.assertIs(type(told[1]), list)
    case.assertIs(is_placing(things, pairs, told[1]), True, (things, pairs, told))
    case.assertEqual(top(things, told[1]), told[0])
    case.assertIs(is_least(things, pairs, told[1]), True)
    return told[0]


class LeastTest(unittest.TestCase):
    def test_none_and_one(self):
        self.assertEqual(least((), []), (0, []))
        self.assertEqual(least(((5, 8),), []), (5, [0]))
        self.assertEqual(least(((GREAT, GREAT),), []), (GREAT, [0]))

    def test_no_pairs(self):
        self.assertEqual(check(self, ((4, 4), (6, 2), (3, 1)), []), 6)
        self.assertEqual(check(self, tuple((t + 1, 9 - t) for t in range(8)), []), 8)

    def test_all_pairs(self):
        self.assertEqual(check(self, TRIO, all_pairs(3)), 13)
        self.assertEqual(check(self, ((1, 1), (8, 8)), all_pairs(2)), 9)
        self.assertEqual(check(self, ((3, 4), (5, 4)), all_pairs(2)), 9)

    def test_a_ring_of_five(self):
        # No three of them are in pairs with one another, yet two sizes aren't enough.
        self.assertEqual(check(self, ((1, 1),) * 5, RING), 3)
        self.assertEqual(check(self, ((2, 1),) * 5, RING), 6)
        self.assertEqual(check(self, ((2, 1), (2, 1), (2, 1), (2, 1), (1, 1)), RING), 5)

    def test_no_rule_finds_it_at_once(self):
        # By the greater size first, and by the numbers, the frame is higher.
        things = ((2, 1), (3, 2), (2, 2), (1, 4), (3, 4))
        pairs = [(0, 1), (0, 3), (1, 2), (1, 4), (2, 3), (3, 4)]
        self.assertEqual(check(self, things, pairs), slow_least(things, pairs))

    def test_by_all_places(self):
        for things, pairs in made_frames(250, 4, 5, 4) + made_frames(60, 5, 3, 3):
            self.assertEqual(check(self, things, pairs), slow_least(things, pairs), (things, pairs))

    def test_by_all_orders(self):
        for things, pairs in made_frames(200, 5, 9, 8) + made_frames(25, 6, 20, 12):
            self.assertEqual(check(self, things, pairs), least_by_orders(things, pairs), (things, pairs))

    def test_eight_alike_ones(self):
        self.assertEqual(check(self, ((1, 1),) * 8, all_pairs(8)), 8)
        self.assertEqual(check(self, ((GREAT, 1),) * 8, all_pairs(8)), 8 * GREAT)
        self.assertEqual(check(self, ((1, 8),) * 8, all_pairs(8)), 57)
        self.assertEqual(check(self, ((1, GREAT),) * 8, all_pairs(8)), 7 * GREAT + 1)

    def test_eight_unlike_ones_in_all_pairs(self):
        for things in (
            tuple((t + 1, 9 - t) for t in range(8)),
            ((5, 7), (5, 11), (5, 2), (5, 3), (5, 5), (5, 1), (5, 4), (5, 13)),
            ((3, 16), (1, 14), (2, 5), (2, 16), (3, 26), (1, 4), (3, 16), (1, 16)),
        ):
            # All in pairs: so they lie in a stack, and the first one is put on nothing.
            told = check(self, things, all_pairs(8))
            stacks = []
            for first in range(8):
                rest = [t for t in range(8) if t != first]
                stacks.append(self.least_stack(things, rest, things[first][0]))
            self.assertEqual(told, min(stacks))

    def least_stack(self, things, left, end):
        """The least end of those left, put in any order on this end."""
        ends = {frozenset(): end}
        for many in range(1, len(left) + 1):
            for some in itertools.combinations(left, many):
                ends[frozenset(some)] = min(
                    -(-ends[frozenset(some) - {t}] // things[t][1]) * things[t][1] + things[t][0] for t in some)
        return ends[frozenset(left)]

    def test_eight_in_two_halves(self):
        # Those of the first half are in pairs with one another, those of the second half too: each is a stack.
        pairs = [(t, u) for t, u in all_pairs(8) if (t < 4) == (u < 4)]
        things = ((3, 4), (5, 4), (1, 2), (7, 1), (9, 8), (2, 2), (4, 4), (1, 1))
        halves = [slow_best_stack(things[:4])[0], slow_best_stack(things[4:])[0]]
        self.assertEqual(check(self, things, pairs), max(halves))

    def test_eight_across_two_halves(self):
        # Each of one half is in a pair with each of the other one: the halves lie one on the other at best.
        pairs = [(t, u) for t, u in all_pairs(8) if t < 4 <= u]
        things = ((3, 1), (5, 1), (1, 1), (7, 1), (9, 1), (2, 1), (4, 1), (1, 1))
        self.assertEqual(check(self, things, pairs), 16)

    def test_eight_drawn_ones(self):
        # No order put one by one is lower.
        for things, pairs in made_frames(150, 8, 10 ** 10 - 1, 10 ** 10 - 1) + made_frames(150, 8, 12, 12):
            told = check(self, things, pairs)
            for step in range(1, 12):
                order = sorted(range(len(things)), key=lambda t: (t * step % 11, t))
                if max((size for size, border in things), default=0) < 100:
                    self.assertLessEqual(told, top(things, slow_placed(things, pairs, order)))

    def test_more_than_eight(self):
        for many in (9, 10, 20):
            for pairs in ([], all_pairs(many)):
                with self.assertRaises(TooMany) as caught:
                    least(((1, 1),) * many, pairs)
                self.assertIs(type(caught.exception), TooMany)
                self.assertIsInstance(caught.exception, FrameError)


class IsLeastTest(unittest.TestCase):
    def test_just_placings_of_that_height(self):
        for things, pairs in made_frames(60, 3, 4, 3):
            low = slow_least(things, pairs)
            places = [range(0, low + 4, border) for size, border in things]
            for some in itertools.product(*places):
                some = list(some)
                right = is_placing(things, pairs, some) and height(things, some) == low
                self.assertIs(is_least(things, pairs, some), right, (things, pairs, some))

    def test_higher_ones(self):
        self.assertIs(is_least(TRIO, all_pairs(3), [0, 4, 10]), True)
        self.assertIs(is_least(TRIO, all_pairs(3), [0, 4, 11]), False)
        self.assertIs(is_least(TRIO, all_pairs(3), [4, 8, 0]), False)
        self.assertIs(is_least(TRIO, [], [0, 0, 3]), True)
        self.assertIs(is_least(TRIO, [], [0, 0, 4]), False)

    def test_lower_ones_that_are_no_placings(self):
        self.assertIs(is_least(TRIO, all_pairs(3), [0, 0, 0]), False)
        self.assertIs(is_least(TRIO, all_pairs(3), [0, 4, 9]), False)

    def test_none_one_and_eight(self):
        self.assertIs(is_least((), [], []), True)
        self.assertIs(is_least((), [], [0]), False)
        self.assertIs(is_least(((3, 2),), [], [0]), True)
        self.assertIs(is_least(((3, 2),), [], [2]), False)
        self.assertIs(is_least(((1, 1),) * 8, all_pairs(8), [7, 6, 5, 4, 3, 2, 1, 0]), True)
        self.assertIs(is_least(((1, 1),) * 8, all_pairs(8), [8, 6, 5, 4, 3, 2, 1, 0]), False)
        self.assertIs(is_least(((1, 1),) * 8, all_pairs(8), [6, 6, 5, 4, 3, 2, 1, 0]), False)

    def test_other_things(self):
        wrong = [(), (0, 4, 10), [0, 4], [0, 4, 10, 0], [0, 4, "10"], [0, 4, None], [False, 4, 10],
                 [-4, 4, 10], [0, 4, [10]], [2, 4, 10], {0: 0, 1: 4, 2: 10}, [[0, 4, 10]]]
        for places in wrong + other_values():
            self.assertIs(is_least(TRIO, all_pairs(3), places), False, places)
            self.assertIs(is_least(((1, 1),), [], places), False, places)
            self.assertIs(is_least((), [], places), False, places)
            if not is_number(places):
                self.assertIs(is_least(((1, 1),), [], [places]), False, places)

    def test_placings_nested_forty_deep(self):
        for make in (lambda inner: (inner,), lambda inner: [inner], lambda inner: {0: inner}):
            for deep in (1, 2, 10, 39):
                self.assertIs(is_least(TRIO, all_pairs(3), nested(make, deep, [0, 4, 10])), False)

    def test_no_refusal_of_nine(self):
        self.assertIs(is_least(((1, 1),) * 9, all_pairs(9), [8, 7, 6, 5, 4, 3, 2, 1, 0]), True)
        self.assertIs(is_least(((1, 1),) * 9, [], [0] * 9), True)
        self.assertIs(is_least(((1, 1),) * 9, [], [0] * 8 + [1]), False)

    def test_what_is_handed_in_stays(self):
        odd = [0, [1], {"a": [2]}]
        before = copy.deepcopy(odd)
        self.assertIs(is_least(TRIO, all_pairs(3), odd), False)
        self.assertEqual(odd, before)
        places = [0, 4, 10]
        self.assertIs(is_least(TRIO, all_pairs(3), places), True)
        self.assertEqual(places, [0, 4, 10])


if __name__ == "__main__":
    unittest.main()
