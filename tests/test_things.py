import copy
import unittest

from frameshare.things import common_border, end_of, height, is_thing, lie_over, rounded
from tests.wrongs import nested, other_values

GREAT = 10 ** 10 - 1


class IsThingTest(unittest.TestCase):
    def test_pairs_of_numbers_from_1_on(self):
        for thing in ((1, 1), (1, 2), (2, 1), (8, 4), (4, 8), (3, 7), (GREAT, GREAT), (1, GREAT), (10 ** 30, 1)):
            self.assertIs(is_thing(thing), True, thing)

    def test_numbers_below_1(self):
        for part in (0, -1, -8, -10 ** 12):
            for thing in ((part, 1), (1, part), (part, part)):
                self.assertIs(is_thing(thing), False, thing)

    def test_other_kinds_in_the_place_of_a_part(self):
        for part in [True, False, None, "", "1", "8", (), (1,), (1, 1), [], [1], {}, {1: 1}] + other_values()[5:]:
            for thing in ((part, 1), (1, part), (part, part)):
                self.assertIs(is_thing(thing), False, thing)

    def test_a_part_left_out_or_put_in(self):
        for thing in ((), (1,), (4,), (1, 1, 1), (8, 4, 2, 1), (1, 1, None), ((1, 1),), ((1, 1), (1, 1))):
            self.assertIs(is_thing(thing), False, thing)

    def test_other_kinds_in_the_place_of_the_pair(self):
        for thing in [[], [1], [1, 1], [8, 4], "11", "ab", {1: 1}, {1: 1, 2: 2}, {8: 4, 4: 8}] + other_values():
            self.assertIs(is_thing(thing), False, thing)

    def test_things_nested_forty_deep(self):
        for make in (lambda inner: (inner,), lambda inner: [inner], lambda inner: (inner, 1),
                     lambda inner: (1, inner), lambda inner: (inner, inner)):
            for deep in (1, 2, 10, 38):
                self.assertIs(is_thing(nested(make, deep, (1, 1))), False, deep)


class RoundedTest(unittest.TestCase):
    def test_numbers_that_the_border_divides_stay(self):
        for border in (1, 2, 3, 4, 7, 8, 16, 100, GREAT):
            for times in (0, 1, 2, 3, 10, 10 ** 12):
                self.assertEqual(rounded(times * border, border), times * border)

    def test_numbers_beside_these_go_up(self):
        for border in (2, 3, 4, 7, 8, 16, 100, GREAT):
            for times in (0, 1, 2, 10, 10 ** 12):
                self.assertEqual(rounded(times * border + 1, border), (times + 1) * border)
                self.assertEqual(rounded((times + 1) * border - 1, border), (times + 1) * border)

    def test_nought(self):
        for border in (1, 2, 8, GREAT):
            self.assertEqual(rounded(0, border), 0)

    def test_the_least_that_is_not_less(self):
        for border in range(1, 14):
            for number in range(0, 60):
                least = [k for k in range(number, number + border) if k % border == 0]
                self.assertEqual([rounded(number, border)], least)

    def test_great_numbers_and_borders(self):
        self.assertEqual(rounded(10 ** 12, 1), 10 ** 12)
        self.assertEqual(rounded(10 ** 12 + 1, 10 ** 6), 10 ** 12 + 10 ** 6)
        self.assertEqual(rounded(1, GREAT), GREAT)
        self.assertEqual(rounded(10 ** 10, GREAT), 2 * GREAT)
        self.assertEqual(rounded(10 ** 12, GREAT), 101 * GREAT)
        self.assertEqual(rounded(10 ** 40 + 1, 10 ** 5), 10 ** 40 + 10 ** 5)
        self.assertEqual(rounded(2 ** 53 + 1, 2), 2 ** 53 + 2)
        self.assertEqual(rounded(5, 10 ** 40), 10 ** 40)


class EndOfTest(unittest.TestCase):
    def test_place_and_size_together(self):
        for size in (1, 2, 8, GREAT):
            for border in (1, 2, 5, GREAT):
                for times in (0, 1, 3, 10 ** 12):
                    self.assertEqual(end_of((size, border), times * border), times * border + size)


class LieOverTest(unittest.TestCase):
    def both_ways(self, thing, place, other, there, told):
        self.assertIs(lie_over(thing, place, other, there), told)
        self.assertIs(lie_over(other, there, thing, place), told)

    def test_side_by_side(self):
        self.both_ways((4, 4), 0, (8, 4), 4, False)
        self.both_ways((1, 1), 0, (1, 1), 1, False)
        self.both_ways((5, 1), 3, (2, 1), 8, False)

    def test_far_apart(self):
        self.both_ways((4, 4), 0, (8, 4), 100, False)
        self.both_ways((1, 1), 10 ** 12, (1, 1), 0, False)

    def test_one_room_in_common(self):
        self.both_ways((4, 1), 0, (8, 1), 3, True)
        self.both_ways((1, 1), 3, (4, 1), 0, True)
        self.both_ways((1, 1), 3, (4, 1), 3, True)

    def test_one_within_the_other(self):
        self.both_ways((10, 1), 0, (2, 1), 4, True)
        self.both_ways((10, 1), 5, (1, 1), 14, True)
        self.both_ways((10, 1), 5, (1, 1), 15, False)

    def test_at_one_place(self):
        self.both_ways((1, 1), 0, (1, 1), 0, True)
        self.both_ways((4, 2), 6, (1, 3), 6, True)

    def test_borders_are_not_asked(self):
        self.both_ways((4, 16), 0, (4, 16), 16, False)
        self.both_ways((4, 1), 16, (20, 16), 0, True)

    def test_just_where_some_room_is_both(self):
        for size in range(1, 5):
            for place in range(0, 7):
                for other in range(1, 5):
                    for there in range(0, 7):
                        rooms = set(range(place, place + size)) & set(range(there, there + other))
                        self.both_ways((size, 1), place, (other, 1), there, bool(rooms))

    def test_great_sizes(self):
        self.both_ways((GREAT, 1), 0, (GREAT, 1), GREAT, False)
        self.both_ways((GREAT, 1), 0, (GREAT, 1), GREAT - 1, True)
        self.both_ways((GREAT, 1), 10 ** 30, (1, 1), 10 ** 30 + GREAT, False)
        self.both_ways((GREAT, 1), 10 ** 30, (1, 1), 10 ** 30 + GREAT - 1, True)
        self.both_ways((GREAT, 1), 10 ** 30, (1, 1), 10 ** 30 - 1, False)


class HeightTest(unittest.TestCase):
    def test_no_things(self):
        self.assertEqual(height((), []), 0)

    def test_the_greatest_end(self):
        self.assertEqual(height(((4, 1),), [0]), 4)
        self.assertEqual(height(((4, 1),), [7]), 11)
        self.assertEqual(height(((1, 1), (8, 4), (2, 2)), [0, 4, 2]), 12)
        self.assertEqual(height(((8, 4), (1, 1), (2, 2)), [4, 0, 2]), 12)
        self.assertEqual(height(((2, 2), (1, 1), (8, 4)), [2, 0, 4]), 12)

    def test_the_greatest_end_is_not_the_greatest_place_or_size(self):
        self.assertEqual(height(((9, 1), (1, 1)), [0, 3]), 9)
        self.assertEqual(height(((3, 1), (2, 1), (1, 1)), [0, 4, 5]), 6)
        self.assertEqual(height(((5, 1), (5, 1)), [0, 0]), 5)

    def test_great_ones(self):
        self.assertEqual(height(((GREAT, 1), (1, 1)), [10 ** 20, 10 ** 20 + GREAT]), 10 ** 20 + 10 ** 10)


class CommonBorderTest(unittest.TestCase):
    def common(self, *borders):
        return common_border(tuple((3, border) for border in borders))

    def test_no_things(self):
        self.assertEqual(common_border(()), 1)

    def test_one_thing(self):
        for border in (1, 2, 12, GREAT):
            self.assertEqual(self.common(border), border)

    def test_sizes_are_not_asked(self):
        self.assertEqual(common_border(((7, 2), (5, 3))), 6)

    def test_shared_divisors(self):
        self.assertEqual(self.common(4, 8), 8)
        self.assertEqual(self.common(8, 4), 8)
        self.assertEqual(self.common(4, 6), 12)
        self.assertEqual(self.common(4, 6, 10), 60)
        self.assertEqual(self.common(6, 6, 6), 6)
        self.assertEqual(self.common(12, 18, 8, 1), 72)

    def test_the_least_that_each_divides(self):
        for first in range(1, 13):
            for second in range(1, 13):
                for third in (1, 5, 6, 9):
                    some = (first, second, third)
                    least = 1
                    while any(least % border for border in some):
                        least += 1
                    self.assertEqual(self.common(*some), least)

    def test_great_ones(self):
        self.assertEqual(self.common(GREAT, GREAT), GREAT)
        self.assertEqual(self.common(GREAT, GREAT - 1), GREAT * (GREAT - 1))
        self.assertEqual(self.common(2 ** 33, 3 ** 20, 6), 2 ** 33 * 3 ** 20)
        self.assertEqual(self.common(6 * 10 ** 8, 10 ** 9), 3 * 10 ** 9)
        self.assertEqual(self.common(*([GREAT, GREAT - 1, GREAT - 2] * 3)), GREAT * (GREAT - 1) * (GREAT - 2))

    def test_what_was_told_is_handed_in_again(self):
        told = self.common(GREAT, GREAT - 1, GREAT - 2)
        self.assertEqual(self.common(told, 7 * told), 7 * told)
        self.assertEqual(rounded(told + 1, told), 2 * told)
        self.assertEqual(end_of((1, told), told), told + 1)
        self.assertIs(is_thing((told, told)), True)


class HandedInTest(unittest.TestCase):
    def test_what_is_handed_in_stays(self):
        things, places = ((4, 4), (8, 2), (1, 1)), [8, 0, 12]
        before = copy.deepcopy((things, places))
        height(things, places)
        common_border(things)
        lie_over(things[0], places[0], things[1], places[1])
        self.assertEqual((things, places), before)
        odd = [[1, 1], {"a": [1]}]
        before = copy.deepcopy(odd)
        is_thing(odd)
        self.assertEqual(odd, before)

    def test_the_same_question_is_told_the_same(self):
        things, places = ((4, 4), (8, 2)), [8, 0]
        self.assertEqual(height(things, places), height(things, places))
        self.assertEqual(common_border(things), common_border(things))
        places[1] = 100
        self.assertEqual(height(things, places), 108)


if __name__ == "__main__":
    unittest.main()
