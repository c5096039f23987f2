import copy
import unittest

from frameshare.placings import first_over, is_placing, least_place, partners
from frameshare.things import is_number
from tests.samples import all_pairs, made_frames
from tests.slow import rooms, slow_placed
from tests.wrongs import nested, other_values

TRIO = ((4, 4), (6, 2), (3, 1))
ALL = [(0, 1), (0, 2), (1, 2)]
GREAT = 10 ** 10 - 1


class IsPlacingTest(unittest.TestCase):
    def yes(self, pairs, places):
        self.assertIs(is_placing(TRIO, pairs, places), True, places)

    def no(self, pairs, places):
        self.assertIs(is_placing(TRIO, pairs, places), False, places)

    def test_one_behind_the_other(self):
        self.yes(ALL, [0, 4, 10])
        self.yes(ALL, [12, 0, 6])
        self.yes(ALL, [4, 8, 1])
        self.yes(ALL, [4, 8, 0])

    def test_far_apart(self):
        self.yes(ALL, [0, 1000, 10 ** 15])
        self.yes(ALL, [4 * 10 ** 30, 0, 9])

    def test_one_room_is_both_s(self):
        self.no(ALL, [0, 2, 10])
        self.no(ALL, [0, 4, 9])
        self.no(ALL, [0, 4, 3])
        self.no(ALL, [4, 8, 2])
        self.no(ALL, [0, 10, 1])
        self.no(ALL, [0, 0, 0])

    def test_only_pairs_are_looked_at(self):
        self.yes([], [0, 0, 0])
        self.yes([(0, 1)], [0, 4, 2])
        self.yes([(0, 2), (1, 2)], [0, 0, 6])
        self.no([(0, 2), (1, 2)], [0, 0, 5])
        self.no([(1, 2)], [0, 0, 5])
        self.yes([(0, 1), (0, 2)], [0, 4, 4])

    def test_no_things(self):
        self.assertIs(is_placing((), [], []), True)
        for places in ([0], [[]], (), {}, None, 0, False, "", [None]):
            self.assertIs(is_placing((), [], places), False, places)

    def test_one_place_too_many_or_few(self):
        for places in ([], [0], [0, 4], [0, 4, 10, 13], [0, 4, 10, 0], [0, 4, 10, None], [0, 4, 10, 13, 16]):
            self.no(ALL, places)
            self.no([], places)

    def test_beside_its_border(self):
        for place in (1, 2, 3, 5, 6, 7, 41, 42, 43):
            self.no([], [place, 0, 0])
        for place in (1, 3, 5, 7):
            self.no([], [0, place, 0])
        for place in range(9):
            self.yes([], [0, 0, place])

    def test_below_0(self):
        self.no([], [-4, 0, 0])
        self.no([], [0, -2, 0])
        self.no([], [0, 0, -1])
        self.no(ALL, [-4, 0, 6])
        self.no([], [0, 0, -10 ** 12])

    def test_other_kinds_in_a_place_s_stead(self):
        for place in [True, False, None, "", "0", "4", (), (0,), [], [0], {}, {0: 0}] + other_values():
            if not is_number(place):
                for at in range(3):
                    places = [0, 4, 10]
                    places[at] = place
                    self.no(ALL, places)
                    self.no([], places)
        self.assertIs(is_placing(((1, 1),), [], [False]), False)
        self.assertIs(is_placing(((1, 1), (1, 1)), [(0, 1)], [0, True]), False)

    def test_other_kinds_in_the_place_of_the_list(self):
        for places in [(), (0, 4, 10), {0: 0, 1: 4, 2: 10}, "000", {0: 0}, [[0, 4, 10]], [(0, 4, 10)]]:
            self.no(ALL, places)
            self.no([], places)
        for places in other_values():
            self.no(ALL, places)
            self.assertIs(is_placing((), [], places), False, places)
            self.assertIs(is_placing(((1, 1),), [], places), False, places)

    def test_placings_nested_forty_deep(self):
        for make in (lambda inner: (inner,), lambda inner: [inner], lambda inner: {0: inner}):
            for deep in (1, 2, 10, 39):
                self.no(ALL, nested(make, deep, [0, 4, 10]))
                self.assertIs(is_placing(((1, 1),), [], nested(make, deep, [0])), False)

    def test_great_ones(self):
        things = ((GREAT, GREAT), (GREAT, 1))
        self.assertIs(is_placing(things, [(0, 1)], [0, GREAT]), True)
        self.assertIs(is_placing(things, [(0, 1)], [GREAT, 0]), True)
        self.assertIs(is_placing(things, [(0, 1)], [0, GREAT - 1]), False)
        self.assertIs(is_placing(things, [(0, 1)], [GREAT, 1]), False)
        self.assertIs(is_placing(things, [(0, 1)], [GREAT - 1, 0]), False)

    def test_room_by_room(self):
        for things, pairs in made_frames(120, 4):
            for order in (list(range(len(things))), list(reversed(range(len(things))))):
                places = slow_placed(things, pairs, order)
                self.assertIs(is_placing(things, pairs, places), True)
                for t in range(len(things)):
                    for place in range(-2, 12):
                        moved = list(places)
                        moved[t] = place
                        free = all(not rooms(things[a], moved[a]) & rooms(things[b], moved[b]) for a, b in pairs)
                        right = place >= 0 and place % things[t][1] == 0 and free
                        self.assertIs(is_placing(things, pairs, moved), right, (things, pairs, moved))

    def test_what_is_handed_in_stays(self):
        odd = [0, [1], {"a": [2]}]
        pairs = [(0, 1), (0, 2)]
        before = copy.deepcopy(odd)
        self.assertIs(is_placing(TRIO, pairs, odd), False)
        self.assertEqual(odd, before)
        places = [0, 4, 10]
        self.assertIs(is_placing(TRIO, pairs, places), True)
        self.assertEqual((places, pairs), ([0, 4, 10], [(0, 1), (0, 2)]))


class FirstOverTest(unittest.TestCase):
    def test_none(self):
        self.assertIsNone(first_over(TRIO, ALL, [0, 4, 10]))
        self.assertIsNone(first_over(TRIO, [], [0, 0, 0]))
        self.assertIsNone(first_over((), [], []))
        self.assertIsNone(first_over(TRIO, [(0, 1)], [0, 4, 2]))

    def test_the_first_as_they_stand(self):
        self.assertEqual(first_over(TRIO, ALL, [0, 0, 0]), (0, 1))
        self.assertEqual(first_over(TRIO, ALL, [0, 4, 4]), (1, 2))
        self.assertEqual(first_over(TRIO, ALL, [0, 4, 3]), (0, 2))
        self.assertEqual(first_over(TRIO, [(0, 2), (1, 2)], [0, 0, 0]), (0, 2))
        self.assertEqual(first_over(TRIO, [(1, 2)], [0, 0, 0]), (1, 2))

    def test_it_is_a_pair(self):
        self.assertIs(type(first_over(TRIO, ALL, [0, 0, 0])), tuple)

    def test_room_by_room(self):
        for things, pairs in made_frames(200, 5):
            for step in (0, 1, 2):
                places = [step * t * things[t][1] for t in range(len(things))]
                over = [pair for pair in pairs
                        if rooms(things[pair[0]], places[pair[0]]) & rooms(things[pair[1]], places[pair[1]])]
                self.assertEqual(first_over(things, pairs, places), over[0] if over else None)
                self.assertIs(is_placing(things, pairs, places), not over)

    def test_what_is_handed_in_stays(self):
        pairs, places = all_pairs(3), [0, 4, 4]
        first_over(TRIO, pairs, places)
        self.assertEqual((pairs, places), (ALL, [0, 4, 4]))


class HelpersTest(unittest.TestCase):
    def test_partners(self):
        self.assertEqual(partners((), []), [])
        self.assertEqual(partners(TRIO, []), [[], [], []])
        self.assertEqual(partners(TRIO, [(0, 1), (1, 2)]), [[1], [0, 2], [1]])

    def test_least_place(self):
        self.assertEqual(least_place((4, 4), []), 0)
        self.assertEqual(least_place((4, 4), [(4, 9), (0, 1)]), 12)
        self.assertEqual(least_place((4, 4), [(8, 9), (0, 4)]), 4)
        self.assertEqual(least_place((4, 4), [(7, 9), (0, 4)]), 12)
        self.assertEqual(least_place((3, 1), [(0, 20), (2, 4), (23, 30), (22, 25)]), 30)
        self.assertEqual(least_place((2, 1), [(0, 20), (2, 4), (23, 30), (22, 25)]), 20)


if __name__ == "__main__":
    unittest.main()
