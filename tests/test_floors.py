import copy
import unittest

from frameshare import errors
from frameshare.errors import FrameError, Given, NotGiven, NoThing
from frameshare.floors import Floor
from frameshare.moving import shows_moves
from tests.samples import Dice
from tests.slow_floor import SlowFloor
from tests.slow_moves import moved_counts, played

GREAT = 10 ** 10 - 1
DEEDS = ("come", "leave", "give", "back", "regrow", "places", "given", "height", "twin")


def floor_of(*things):
    floor = Floor()
    for size, border in things:
        floor.come(size, border)
    return floor


def seen(floor):
    """All that a floor tells, and the number that comes next."""
    return floor.places(), floor.given(), floor.height(), floor.twin().come(1, 1)


class FloorTest(unittest.TestCase):
    def refused(self, refusal, floor, deed, t):
        before = seen(floor)
        with self.assertRaises(FrameError) as caught:
            getattr(floor, deed)(t)
        self.assertIs(type(caught.exception), refusal, (deed, t))
        self.assertEqual(seen(floor), before)

    def test_each_deed_stands_in_the_class_itself(self):
        for deed in DEEDS:
            self.assertIn(deed, vars(Floor))

    def test_an_empty_floor(self):
        floor = Floor()
        self.assertEqual(floor.places(), {})
        self.assertEqual(floor.given(), [])
        self.assertEqual(floor.height(), 0)
        self.assertEqual(floor.regrow(), [])

    def test_numbers(self):
        floor = Floor()
        self.assertEqual([floor.come(1, 1) for count in range(4)], [0, 1, 2, 3])
        floor.leave(1)
        self.assertEqual(floor.come(1, 1), 4)
        floor.leave(4)
        self.assertEqual(floor.come(1, 1), 5)
        floor.leave(5)
        floor.leave(3)
        self.assertEqual(floor.come(1, 1), 6)
        for t in (0, 2, 6):
            floor.leave(t)
        self.assertEqual(floor.places(), {})
        self.assertEqual(floor.come(1, 1), 7)

    def test_least_places(self):
        floor = floor_of((3, 1), (4, 4), (1, 1), (2, 1), (2, 2))
        self.assertEqual(floor.places(), {0: 0, 1: 4, 2: 3, 3: 8, 4: 10})
        self.assertEqual(floor.height(), 12)

    def test_into_a_gap(self):
        floor = floor_of((4, 1), (4, 1), (4, 1))
        floor.leave(1)
        self.assertEqual(floor.come(5, 1), 3)
        self.assertEqual(floor.come(2, 3), 4)
        self.assertEqual(floor.come(2, 1), 5)
        self.assertEqual(floor.places(), {0: 0, 2: 8, 3: 12, 4: 6, 5: 4})
        floor.leave(0)
        floor.come(4, 4)
        self.assertEqual(floor.places()[6], 0)

    def test_by_the_border(self):
        floor = floor_of((1, 1), (1, 8), (1, 8), (7, 1), (8, 1))
        self.assertEqual(floor.places(), {0: 0, 1: 8, 2: 16, 3: 1, 4: 17})

    def test_what_is_told_of_deeds(self):
        floor = floor_of((1, 1))
        self.assertIsNone(floor.give(0))
        self.assertIsNone(floor.back(0))
        self.assertIsNone(floor.leave(0))

    def test_height(self):
        floor = floor_of((5, 1), (3, 1), (4, 1))
        self.assertEqual(floor.height(), 12)
        floor.leave(1)
        self.assertEqual(floor.height(), 12)
        floor.leave(2)
        self.assertEqual(floor.height(), 5)
        floor.leave(0)
        self.assertEqual(floor.height(), 0)

    def test_given(self):
        floor = floor_of(*[(1, 1)] * 20)
        for t in (17, 1, 16, 9, 8):
            floor.give(t)
        self.assertEqual(floor.given(), [1, 8, 9, 16, 17])
        floor.back(9)
        self.assertEqual(floor.given(), [1, 8, 16, 17])
        floor.give(9)
        floor.back(1)
        self.assertEqual(floor.given(), [8, 9, 16, 17])

    def test_no_thing(self):
        floor = floor_of((1, 1), (1, 1), (1, 1))
        floor.leave(1)
        for t in (1, 3, 4, -1, -2, -3, 10 ** 12):
            for deed in ("leave", "give", "back"):
                self.refused(NoThing, floor, deed, t)
                self.refused(NoThing, Floor(), deed, t)
        self.refused(NoThing, Floor(), "leave", 0)

    def test_given_ones(self):
        floor = floor_of((1, 1), (1, 1))
        floor.give(0)
        self.refused(Given, floor, "leave", 0)
        self.refused(Given, floor, "give", 0)
        floor.back(0)
        floor.give(0)
        self.refused(Given, floor, "give", 0)
        floor.back(0)
        self.assertIsNone(floor.leave(0))
        self.refused(NoThing, floor, "give", 0)

    def test_ones_that_are_not_given(self):
        floor = floor_of((1, 1), (1, 1))
        self.refused(NotGiven, floor, "back", 0)
        floor.give(1)
        self.refused(NotGiven, floor, "back", 0)
        floor.back(1)
        self.refused(NotGiven, floor, "back", 1)

    def test_one_that_left_is_no_thing_first(self):
        floor = floor_of((1, 1))
        floor.give(0)
        floor.back(0)
        floor.leave(0)
        for deed in ("leave", "give", "back"):
            self.refused(NoThing, floor, deed, 0)

    def test_floors_have_nothing_in_common(self):
        first, second = Floor(), Floor()
        first.come(3, 1)
        first.give(0)
        self.assertEqual(seen(second), ({}, [], 0, 0))
        second.come(5, 1)
        self.assertEqual(seen(first), ({0: 0}, [0], 3, 1))
        self.assertEqual(seen(second), ({0: 0}, [], 5, 1))


class RegrowCase(unittest.TestCase):
    def regrow(self, floor, things, places, most_twice=None):
        """Regrow the floor, of these things by their numbers, and look at all that is promised of it."""
        olds, given = floor.places(), floor.given()
        told = floor.regrow()
        self.assertIs(type(told), list)
        self.assertEqual({type(move) for move in told} - {tuple}, set())
        self.assertEqual(floor.places(), places)
        self.assertEqual(floor.given(), given)
        self.assertEqual(floor.height(), max([place + things[t][0] for t, place in places.items()], default=0))
        numbers = sorted(places)
        some = tuple(things[t] for t in numbers)
        renamed = [(numbers.index(t), place) for t, place in told]
        before, behind = [olds[t] for t in numbers], [places[t] for t in numbers]
        self.assertEqual(played(some, before, renamed), behind)
        self.assertIs(shows_moves(some, before, behind, renamed), True)
        counts = moved_counts(some, renamed)
        for t, count, old, new in zip(numbers, counts, before, behind):
            self.assertLessEqual(count, 2)
            if old == new or t in given:
                self.assertEqual(count, 0)
        if most_twice is not None:
            self.assertLessEqual(counts.count(2), most_twice)
        return told


class RegrowTest(RegrowCase):
    def test_gaps_are_filled(self):
        things = [(4, 1), (4, 1), (4, 1)]
        floor = floor_of(*things)
        floor.leave(0)
        told = self.regrow(floor, things, {1: 0, 2: 4})
        self.assertEqual(told, [(1, 0), (2, 4)])
        self.assertEqual(floor.height(), 8)
        self.assertEqual(floor.regrow(), [])

    def test_greater_sizes_first(self):
        things = [(1, 1), (8, 8), (4, 4)]
        floor = floor_of(*things)
        self.assertEqual(floor.places(), {0: 0, 1: 8, 2: 4})
        self.regrow(floor, things, {0: 12, 1: 0, 2: 8})

    def test_of_like_ones_the_lesser_number_first(self):
        things = [(2, 1), (3, 1), (3, 1), (3, 1)]
        floor = floor_of(*things)
        floor.leave(0)
        floor.come(3, 1)
        self.assertEqual(floor.places(), {1: 2, 2: 5, 3: 8, 4: 11})
        self.regrow(floor, things + [(3, 1)], {1: 0, 2: 3, 3: 6, 4: 9})

    def test_where_the_height_is_not_less(self):
        floor = floor_of((1, 1), (2, 1), (3, 1))
        self.assertEqual(floor.regrow(), [])
        self.assertEqual(floor.places(), {0: 0, 1: 1, 2: 3})
        floor.leave(1)
        floor.come(2, 2)
        self.assertEqual(floor.places(), {0: 0, 2: 3, 3: 6})
        self.regrow(floor, {0: (1, 1), 2: (3, 1), 3: (2, 2)}, {0: 3, 2: 0, 3: 4})
        self.assertEqual(floor.regrow(), [])

    def test_where_the_height_would_be_greater(self):
        # By sizes the thing of five rooms comes first, and leaves no room at 0 for the one with the border 8.
        floor = floor_of((4, 8), (5, 1))
        self.assertEqual(floor.places(), {0: 0, 1: 4})
        self.assertEqual(floor.regrow(), [])
        self.assertEqual(floor.places(), {0: 0, 1: 4})
        self.assertEqual(floor.height(), 9)

    def test_those_handed_out_stay(self):
        things = [(4, 1), (4, 1), (4, 1), (4, 1)]
        floor = floor_of(*things)
        floor.give(1)
        floor.leave(0)
        self.regrow(floor, things, {1: 4, 2: 0, 3: 8})
        floor.give(3)
        floor.leave(2)
        self.assertEqual(floor.regrow(), [])
        floor.back(3)
        self.regrow(floor, things, {1: 4, 3: 0})

    def test_all_handed_out(self):
        floor = floor_of((4, 1), (4, 1))
        floor.leave(0)
        floor.give(1)
        self.assertEqual(floor.regrow(), [])
        self.assertEqual(floor.places(), {1: 4})

    def test_around_what_is_handed_out(self):
        things = [(3, 1), (2, 1), (6, 1), (5, 1)]
        floor = floor_of(*things)
        floor.give(1)
        floor.leave(0)
        # 2 doesn't fit below 1, and comes first; 3 comes behind it.
        self.assertEqual(floor.regrow(), [])
        floor.come(3, 1)
        floor.come(1, 1)
        floor.leave(4)
        self.regrow(floor, {1: (2, 1), 2: (6, 1), 3: (5, 1), 5: (1, 1)}, {1: 3, 2: 5, 3: 11, 5: 0})

    def test_of_alike_ones_at_most_half_are_moved_twice(self):
        for many in range(2, 12):
            things = [(1, 1)] + [(4, 4)] * many
            floor = floor_of(*things)
            floor.leave(0)
            self.regrow(floor, things, {t: 4 * (t - 1) for t in range(1, many + 1)}, many // 2)

    def test_rings_of_alike_ones(self):
        # The later numbers came into the gaps of the first ones, so that all are put in another order.
        for many in (2, 3, 5, 10):
            floor = floor_of(*[(2, 2)] * (2 * many))
            for t in range(many):
                floor.leave(t)
            for count in range(many - 1):
                floor.come(2, 2)
            things = [(2, 2)] * (3 * many)
            numbers = sorted(floor.places())
            news = {t: 2 * at for at, t in enumerate(numbers)}
            elsewhere = sum(floor.places()[t] != news[t] for t in numbers)
            self.regrow(floor, things, news, elsewhere // 2)

    def test_numbers_of_the_floor(self):
        floor = floor_of(*[(3, 3)] * 12)
        for t in range(9):
            floor.leave(t)
        self.assertEqual(sorted(floor.regrow()), [(9, 0), (10, 3), (11, 6)])

    def test_what_comes_behind_it(self):
        floor = floor_of((4, 1), (4, 1), (4, 1))
        floor.leave(0)
        floor.regrow()
        self.assertEqual(floor.come(2, 1), 3)
        self.assertEqual(floor.places(), {1: 0, 2: 4, 3: 8})
        floor.leave(1)
        self.assertEqual(floor.come(3, 1), 4)
        self.assertEqual(floor.places(), {2: 4, 3: 8, 4: 0})

    def test_great_ones(self):
        floor = floor_of((GREAT, GREAT), (GREAT, 1), (GREAT - 1, GREAT - 1))
        self.assertEqual(floor.places(), {0: 0, 1: GREAT, 2: 3 * (GREAT - 1)})
        floor.leave(0)
        self.assertEqual(sorted(floor.regrow()), [(1, 0), (2, 2 * (GREAT - 1))])
        self.assertEqual(floor.height(), 3 * (GREAT - 1))


class TwinTest(unittest.TestCase):
    def test_the_same(self):
        floor = floor_of((4, 1), (4, 4), (2, 2))
        floor.leave(0)
        floor.give(2)
        twin = floor.twin()
        self.assertIs(type(twin), Floor)
        self.assertIsNot(twin, floor)
        self.assertEqual(seen(twin), seen(floor))
        self.assertEqual(seen(twin), ({1: 4, 2: 8}, [2], 10, 3))

    def test_the_next_number_behind_a_leave_of_the_greatest(self):
        floor = floor_of((1, 1), (1, 1))
        floor.leave(1)
        twin = floor.twin()
        self.assertEqual(twin.come(1, 1), 2)
        self.assertEqual(floor.come(1, 1), 2)
        self.assertEqual(Floor().twin().come(1, 1), 0)

    def test_a_deed_of_the_one_leaves_the_other(self):
        deeds = (
            lambda floor: floor.come(3, 3), lambda floor: floor.leave(3), lambda floor: floor.give(1),
            lambda floor: floor.back(2), lambda floor: floor.regrow(), lambda floor: floor.twin().come(1, 1),
        )
        for deed in deeds:
            for which in (0, 1):
                floor = floor_of((4, 1), (4, 4), (2, 2), (4, 1))
                floor.leave(0)
                floor.give(2)
                both = [floor, floor.twin()]
                before = seen(both[1 - which])
                self.assertEqual(seen(both[which]), before)
                deed(both[which])
                self.assertEqual(seen(both[1 - which]), before)

    def test_twins_go_on_alike(self):
        floor = floor_of((4, 1), (4, 4), (2, 2), (4, 1))
        floor.leave(0)
        twin = floor.twin()
        for one in (floor, twin):
            one.give(2)
        self.assertEqual(twin.regrow(), floor.regrow())
        self.assertEqual(seen(twin), seen(floor))
        for one in (floor, twin):
            one.back(2)
            one.leave(2)
        self.assertEqual(twin.regrow(), floor.regrow())
        self.assertEqual(seen(twin), seen(floor))

    def test_a_twin_of_a_twin(self):
        floor = floor_of((4, 1))
        twin = floor.twin()
        other = twin.twin()
        twin.give(0)
        other.come(2, 1)
        self.assertEqual([seen(one)[1:] for one in (floor, twin, other)], [([], 4, 1), ([0], 4, 1), ([], 6, 2)])


class OwnTest(unittest.TestCase):
    def test_places_and_given_are_told_anew(self):
        floor = floor_of((4, 1), (4, 1), (4, 1))
        floor.give(1)
        floor.give(2)
        places, given = floor.places(), floor.given()
        self.assertIs(type(places), dict)
        self.assertIs(type(given), list)
        self.assertIsNot(floor.places(), places)
        self.assertIsNot(floor.given(), given)
        places.clear()
        given.append(0)
        self.assertEqual(seen(floor), ({0: 0, 1: 4, 2: 8}, [1, 2], 12, 3))
        places = floor.places()
        places[0] = 77
        places[9] = 9
        given = floor.given()
        given.clear()
        self.assertEqual(floor.come(1, 1), 3)
        self.assertEqual(seen(floor), ({0: 0, 1: 4, 2: 8, 3: 12}, [1, 2], 13, 4))

    def test_told_ones_do_not_change_by_later_deeds(self):
        floor = floor_of((4, 1), (4, 1), (4, 1))
        floor.give(1)
        places, given = floor.places(), floor.given()
        floor.back(1)
        floor.leave(0)
        moves = floor.regrow()
        kept = list(moves)
        floor.come(8, 1)
        floor.give(2)
        self.assertEqual(places, {0: 0, 1: 4, 2: 8})
        self.assertEqual(given, [1])
        self.assertEqual(moves, kept)
        moves.clear()
        self.assertEqual(floor.places(), {1: 0, 2: 4, 3: 8})

    def test_told_moves_are_the_askers_own(self):
        floor = floor_of((4, 1), (4, 1))
        none, other = floor.regrow(), floor.regrow()
        self.assertIsNot(none, other)
        none.append((0, 5))
        self.assertEqual(floor.regrow(), [])


class DrawnFloorTest(RegrowCase):
    def test_drawn_deeds(self):
        refusals, regrown = {}, 0
        for seed in range(1, 120):
            dice = Dice(seed)
            alike = dice.below(3) == 0
            floor, slow, things = Floor(), SlowFloor(), {}
            for count in range(60):
                what = dice.below(9)
                if what < 4 or not things:
                    thing = (4, (1, 2, 4)[dice.below(3)]) if alike else (1 + dice.below(9), 1 + dice.below(5))
                    t = floor.come(*thing)
                    self.assertEqual(t, slow.come(*thing))
                    things[t] = thing
                elif what < 8:
                    deed = ("leave", "leave", "give", "back")[what - 4]
                    self.deed(floor, slow, deed, dice.below(slow.next + 2) - 1, refusals)
                else:
                    news = {t: place for t, (thing, place) in slow.regrown().items()}
                    told = self.regrow(floor, things, news)
                    regrown += len(told) > 0
                    slow.here = slow.regrown()
                self.assertEqual(floor.places(), slow.places())
                self.assertEqual(floor.given(), sorted(slow.out))
                self.assertEqual(floor.height(), slow.top(slow.here))
        self.assertEqual(set(refusals), {"NoThing", "Given", "NotGiven", None})
        self.assertGreater(min(refusals.values()), 50)
        self.assertGreater(regrown, 50)

    def deed(self, floor, slow, deed, t, refusals):
        refusal = slow.refusal(deed, t)
        refusals[refusal] = refusals.get(refusal, 0) + 1
        if refusal is None:
            self.assertIsNone(getattr(floor, deed)(t))
            getattr(slow, deed)(t)
        else:
            with self.assertRaises(getattr(errors, refusal)) as caught:
                getattr(floor, deed)(t)
            self.assertEqual(type(caught.exception).__name__, refusal)

    def test_drawn_alike_ones(self):
        """All of one size that their borders divide: at most half of those that lie elsewhere are moved twice."""
        twice = 0
        for seed in range(1, 120):
            dice = Dice(seed)
            size = (1, 2, 4, 12)[dice.below(4)]
            floor, slow, things = Floor(), SlowFloor(), {}
            for count in range(10 + dice.below(31)):
                border = [b for b in range(1, size + 1) if size % b == 0]
                things[count] = (size, border[dice.below(len(border))])
                floor.come(*things[count])
                slow.come(*things[count])
            for t in range(len(things)):
                if dice.below(2):
                    floor.leave(t)
                    slow.leave(t)
            for t in range(len(things), len(things) + dice.below(8)):
                things[t] = (size, 1)
                floor.come(size, 1)
                slow.come(size, 1)
            for t in sorted(slow.here):
                if dice.below(6) == 0:
                    floor.give(t)
                    slow.give(t)
            news = {t: place for t, (thing, place) in slow.regrown().items()}
            elsewhere = sum(floor.places()[t] != news[t] for t in news)
            told = self.regrow(floor, things, news, elsewhere // 2)
            twice += len(told) - len({t for t, place in told})
        self.assertGreater(twice, 10)

    def test_ten_to_forty_things_at_once(self):
        for many in (10, 20, 40):
            dice = Dice(many)
            floor, slow, things = Floor(), SlowFloor(), {}
            for t in range(2 * many):
                things[t] = (1 + dice.below(30), 1 + dice.below(8))
                floor.come(*things[t])
                slow.come(*things[t])
            for t in range(many):
                floor.leave(2 * t)
                slow.leave(2 * t)
            for t in range(0, many, 5):
                floor.give(2 * t + 1)
                slow.give(2 * t + 1)
            self.assertEqual(floor.places(), slow.places())
            self.assertEqual(len(floor.places()), many)
            news = {t: place for t, (thing, place) in slow.regrown().items()}
            self.assertTrue(self.regrow(floor, things, news))

    def test_two_floors_in_turns(self):
        def deeds(floor, dice):
            told = []
            for count in range(40):
                what, number = dice.below(6), dice.below(8)
                try:
                    if what < 3:
                        told.append(floor.come(1 + number, 1 + dice.below(4)))
                    elif what == 3:
                        told.append(floor.leave(number))
                    elif what == 4:
                        told.append(floor.give(number))
                    else:
                        told.append(floor.regrow())
                except FrameError as refusal:
                    told.append(type(refusal))
                told.append(copy.deepcopy((floor.places(), floor.given(), floor.height())))
                yield told
        alone = [list(deeds(Floor(), Dice(seed)))[-1] for seed in (1, 2)]
        turns = [deeds(Floor(), Dice(seed)) for seed in (1, 2)]
        for count in range(40):
            both = [next(turn) for turn in turns]
        self.assertEqual(both, alone)


if __name__ == "__main__":
    unittest.main()
