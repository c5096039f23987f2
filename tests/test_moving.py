import copy
import itertools
import unittest

from frameshare.moving import moves, shows_moves
from tests.samples import Dice
from tests.slow import rooms
from tests.slow_moves import drawn_moving, moved_counts, played
from tests.wrongs import nested, other_values

GREAT = 10 ** 10 - 1
ONES = ((1, 1), (1, 1), (1, 1), (1, 1))


class MovesTest(unittest.TestCase):
    def moves(self, things, olds, news, most_twice=None, twice=None):
        """The moves told, which all that is promised holds of; at most so many, or just so many, are moved twice."""
        told = moves(things, olds, news)
        self.assertIs(type(told), list)
        self.assertEqual({type(move) for move in told} - {tuple}, set())
        self.assertEqual(played(things, olds, told), news, (things, olds, news))
        self.assertIs(shows_moves(things, olds, news, told), True)
        counts = moved_counts(things, told)
        for count, old, new in zip(counts, olds, news):
            if old == new:
                self.assertEqual(count, 0)
            else:
                self.assertIn(count, (1, 2))
        if most_twice is not None:
            self.assertLessEqual(counts.count(2), most_twice, (things, olds, news))
        if twice is not None:
            self.assertEqual(counts.count(2), twice, (things, olds, news))
        return told

    def test_none_and_one(self):
        self.assertEqual(moves((), [], []), [])
        self.assertEqual(moves(((4, 4),), [8], [8]), [])
        self.assertEqual(moves(((4, 4),), [8], [0]), [(0, 0)])
        self.assertEqual(moves(((4, 4),), [0], [8]), [(0, 8)])

    def test_over_its_own_rooms(self):
        self.assertEqual(moves(((4, 1),), [3], [1]), [(0, 1)])
        self.assertEqual(moves(((4, 1),), [1], [3]), [(0, 3)])
        self.assertEqual(moves(((4, 1), (4, 1)), [3, 8], [1, 5]), [(0, 1), (1, 5)])

    def test_alike_places(self):
        self.assertEqual(moves(((4, 4), (2, 1), (3, 3)), [0, 4, 6], [0, 4, 6]), [])

    def test_some_lie_there_already(self):
        self.assertEqual(moves(((4, 4), (2, 1), (3, 3)), [0, 7, 12], [0, 7, 9]), [(2, 9)])

    def test_exchanges(self):
        self.moves(((1, 1), (1, 1)), [0, 1], [1, 0], twice=1)
        self.moves(((4, 4), (4, 2)), [0, 4], [4, 0], twice=1)
        self.moves(((2, 1), (5, 1)), [0, 2], [5, 0], most_twice=1)
        self.moves(((2, 1), (5, 1)), [0, 20], [20, 0], most_twice=1)
        self.moves(ONES, [0, 1, 2, 3], [1, 0, 3, 2], twice=2)

    def test_chains(self):
        self.assertEqual(sorted(moves(ONES, [0, 1, 2, 3], [1, 2, 3, 4])), [(0, 1), (1, 2), (2, 3), (3, 4)])
        self.moves(ONES, [0, 1, 2, 3], [1, 2, 3, 4], twice=0)
        self.moves(ONES, [1, 2, 3, 4], [0, 1, 2, 3], twice=0)
        self.moves(((3, 1), (2, 1), (4, 2)), [0, 3, 6], [1, 4, 8], twice=0)
        self.moves(tuple((2, 1) for t in range(40)), list(range(0, 80, 2)), list(range(1, 81, 2)), twice=0)
        self.moves(tuple((2, 1) for t in range(40)), list(range(1, 81, 2)), list(range(0, 80, 2)), twice=0)

    def test_rings(self):
        self.moves(ONES, [0, 1, 2, 3], [1, 2, 3, 0], twice=1)
        self.moves(ONES, [0, 1, 2, 3], [3, 0, 1, 2], twice=1)
        self.moves(ONES, [0, 1, 2, 3], [1, 2, 0, 3], twice=1)
        many = 40
        self.moves(tuple((1, 1) for t in range(many)), list(range(many)), list(range(1, many)) + [0], twice=1)

    def test_rings_with_a_chain_behind(self):
        # 2 waits for a place that 0 and 1 have, of which 1 waits for that of 2: so 0 alone isn't in a ring.
        self.moves(((1, 1), (1, 1), (2, 1), (1, 1)), [0, 1, 4, 2], [3, 4, 0, 2], twice=1)
        # Of four that lie in a row, those at the ends exchange, and the others, too.
        self.moves(ONES, [0, 1, 2, 3], [3, 2, 1, 0], twice=2)
        # An exchange, and one that waits for nothing.
        self.moves(((1, 1), (1, 1), (1, 1)), [0, 1, 2], [1, 0, 5], twice=1)

    def test_turned_round(self):
        for many in range(9):
            things = tuple((3, 3) for t in range(many))
            olds = [3 * t for t in range(many)]
            self.moves(things, olds, list(reversed(olds)), twice=many // 2)
            self.moves(things, olds, [place + 3 * many for place in reversed(olds)], twice=0)
            unlike = tuple((1 + t, 1) for t in range(many))
            sums = [sum(range(1, t + 1)) for t in range(many)]
            top = sum(range(1, many + 1))
            self.moves(unlike, sums, [top - place - 1 - t for t, place in enumerate(sums)])

    def test_all_orders_of_alike_ones(self):
        for size, border in ((1, 1), (6, 3), (4, 4)):
            for many in range(6):
                things = tuple((size, border) for t in range(many))
                olds = [size * t for t in range(many)]
                for order in itertools.permutations(range(many)):
                    news = [size * at for at in order]
                    elsewhere = sum(old != new for old, new in zip(olds, news))
                    self.moves(things, olds, news, most_twice=elsewhere // 2)
                    # With a room between, and one that all have left.
                    self.moves(things, olds, [place + size for place in news],
                               most_twice=sum(t != at + 1 for t, at in enumerate(order)) // 2)

    def test_one_that_lies_there_already_does_not_count_for_the_half(self):
        # Three lie elsewhere: one alone may be moved twice.
        self.moves(ONES, [0, 1, 2, 3], [0, 2, 3, 1], twice=1)

    def test_great_ones_in_the_way_of_small_ones(self):
        self.moves(((4, 1), (1, 1), (1, 1), (1, 1), (1, 1)), [0, 4, 5, 6, 7], [4, 0, 1, 2, 3])
        self.moves(((4, 1), (1, 1), (1, 1), (1, 1), (1, 1)), [4, 0, 1, 2, 3], [0, 7, 6, 5, 4])

    def test_great_numbers(self):
        things = ((GREAT, GREAT), (GREAT, 1), (GREAT, 3))
        self.moves_great(things, [0, GREAT, 2 * GREAT], [GREAT, 2 * GREAT, 0])
        self.moves_great(things, [GREAT, 0, 2 * GREAT], [0, GREAT, 2 * GREAT])

    def moves_great(self, things, olds, news):
        told = moves(things, olds, news)
        self.assertIs(shows_moves(things, olds, news, told), True)
        self.assertEqual(moved_counts(things, told).count(2), 1)

    def test_drawn_ones(self):
        twice = 0
        for seed in range(1, 800):
            things, olds, news = drawn_moving(Dice(seed), 8, False)
            told = self.moves(things, olds, news)
            twice += moved_counts(things, told).count(2)
        self.assertGreater(twice, 100)

    def test_drawn_alike_ones(self):
        for seed in range(1, 800):
            things, olds, news = drawn_moving(Dice(seed), 8, True)
            elsewhere = sum(old != new for old, new in zip(olds, news))
            self.moves(things, olds, news, most_twice=elsewhere // 2)

    def test_many_drawn_ones(self):
        for seed in range(1, 12):
            things, olds, news = drawn_moving(Dice(seed), 60, False)
            self.moves(things, olds, news)
            things, olds, news = drawn_moving(Dice(seed), 60, True)
            self.moves(things, olds, news, most_twice=sum(old != new for old, new in zip(olds, news)) // 2)

    def test_own(self):
        for seed in range(1, 60):
            things, olds, news = drawn_moving(Dice(seed), 8, False)
            before = copy.deepcopy((things, olds, news))
            told = moves(things, olds, news)
            self.assertEqual((things, olds, news), before)
            self.assertFalse(any(told is part for part in (olds, news)))
            same = list(told)
            told.append((77, 77))
            told.reverse()
            self.assertEqual(moves(things, olds, news), same)
            olds.clear()
            news.append(5)
            self.assertEqual(moves(*before), same)


class ShowsMovesTest(unittest.TestCase):
    THINGS = ((4, 4), (2, 1), (3, 3))
    OLDS, NEWS = [0, 4, 6], [8, 4, 0]

    def shows(self, told, *tried):
        self.assertIs(shows_moves(self.THINGS, self.OLDS, self.NEWS, list(tried)), told, tried)

    def test_moves_that_lead_there(self):
        self.shows(True, (0, 12), (2, 0), (0, 8))
        self.shows(True, (2, 9), (0, 12), (2, 0), (0, 8))
        self.shows(True, (2, 9), (2, 30), (0, 8), (2, 0))

    def test_one_that_is_moved_often_or_for_nothing(self):
        self.shows(True, (1, 20), (2, 9), (2, 24), (0, 12), (2, 0), (1, 5), (1, 4), (0, 16), (0, 8))
        self.shows(True, (1, 4), (0, 12), (0, 12), (2, 0), (0, 8))

    def test_none(self):
        self.shows(False)
        self.assertIs(shows_moves((), [], [], []), True)
        self.assertIs(shows_moves(self.THINGS, self.OLDS, list(self.OLDS), []), True)
        self.assertIs(shows_moves(self.THINGS, self.NEWS, self.NEWS, []), True)

    def test_another_end(self):
        self.shows(False, (0, 12))
        self.shows(False, (0, 12), (2, 0))
        self.shows(False, (0, 12), (2, 0), (0, 8), (1, 5))
        self.shows(False, (0, 12), (2, 0), (0, 8), (0, 12))

    def test_rooms_where_another_one_lies(self):
        self.shows(False, (0, 8), (2, 0))
        self.shows(False, (2, 0), (0, 8))
        self.shows(False, (2, 3), (2, 15), (0, 8), (2, 0))
        self.shows(False, (1, 7), (1, 4), (0, 12), (2, 0), (0, 8))
        # The end is right, but on the way one lies over another.
        self.shows(False, (0, 4), (0, 12), (2, 0), (0, 8))

    def test_over_its_own_rooms(self):
        self.assertIs(shows_moves(((4, 1),), [3], [1], [(0, 1)]), True)
        self.assertIs(shows_moves(((4, 1), (1, 1)), [3, 1], [1, 7], [(0, 1)]), False)
        self.assertIs(shows_moves(((4, 1), (1, 1)), [3, 1], [1, 7], [(1, 7), (0, 1)]), True)

    def test_where_it_was_is_free(self):
        self.assertIs(shows_moves(((4, 4), (4, 4)), [0, 4], [4, 8], [(1, 8), (0, 4)]), True)
        self.assertIs(shows_moves(((4, 4), (4, 4)), [0, 4], [4, 8], [(0, 4), (1, 8)]), False)

    def test_a_place_that_the_border_does_not_divide(self):
        self.shows(False, (0, 13), (2, 0), (0, 8))
        self.shows(False, (2, 10), (0, 12), (2, 0), (0, 8))

    def test_below_nought(self):
        self.shows(False, (0, -4), (2, 9), (0, 12), (2, 0), (0, 8))
        self.shows(False, (1, -2), (0, 12), (2, 0), (0, 8), (1, 4))
        self.assertIs(shows_moves(((4, 4),), [0], [0], [(0, -8), (0, 0)]), False)

    def test_a_thing_that_is_not_there(self):
        for t in (3, 4, 100, -1, -3, 10 ** 12):
            self.shows(False, (t, 24), (0, 12), (2, 0), (0, 8))
            self.shows(False, (0, 12), (2, 0), (0, 8), (t, 24))
        self.assertIs(shows_moves((), [], [], [(0, 0)]), False)

    def test_true_and_false_are_no_numbers(self):
        things = ((1, 1), (1, 1))
        self.assertIs(shows_moves(things, [0, 5], [0, 6], [(1, 6)]), True)
        self.assertIs(shows_moves(things, [0, 5], [0, 6], [(True, 6)]), False)
        self.assertIs(shows_moves(things, [3, 5], [4, 5], [(False, 4)]), False)
        self.assertIs(shows_moves(things, [3, 5], [1, 5], [(0, True)]), False)
        self.assertIs(shows_moves(things, [3, 5], [0, 5], [(0, False)]), False)
        self.assertIs(shows_moves(things, [3, 5], [0, 5], [(0, 0)]), True)

    def test_lists_and_tuples(self):
        self.shows(False, [0, 12], (2, 0), (0, 8))
        self.shows(False, (0, 12), (2, 0), [0, 8])
        right = [(0, 12), (2, 0), (0, 8)]
        self.assertIs(shows_moves(self.THINGS, self.OLDS, self.NEWS, right), True)
        self.assertIs(shows_moves(self.THINGS, self.OLDS, self.NEWS, tuple(right)), False)
        self.assertIs(shows_moves(self.THINGS, self.OLDS, self.NEWS, dict(right)), False)
        self.assertIs(shows_moves(self.THINGS, self.NEWS, self.NEWS, ()), False)
        self.assertIs(shows_moves(self.THINGS, self.NEWS, self.NEWS, {}), False)
        self.assertIs(shows_moves(self.THINGS, self.NEWS, self.NEWS, ""), False)

    def test_parts_left_out_or_put_in(self):
        for odd in ((), (0,), (0, 12, 0), (0, 12, None), 0, None, "012", ("0", 12), (0, "12"), (0, None), (None, 12)):
            self.shows(False, odd, (0, 12), (2, 0), (0, 8))
            self.shows(False, (0, 12), (2, 0), (0, 8), odd)

    def test_any_other_thing(self):
        for thing in other_values():
            same = self.NEWS
            if thing != []:
                self.assertIs(shows_moves(self.THINGS, same, same, thing), False, thing)
            self.assertIs(shows_moves(self.THINGS, same, same, [thing]), False, thing)
            self.assertIs(shows_moves(self.THINGS, same, same, [(0, 8), thing]), False, thing)
            self.assertIs(shows_moves(self.THINGS, same, same, [(1, thing)]), False, thing)
            self.assertIs(shows_moves(self.THINGS, same, same, [(thing, thing)]), False, thing)
            if thing != 1 or thing is True:
                self.assertIs(shows_moves(self.THINGS, same, same, [(thing, 4)]), False, thing)

    def test_forty_deep(self):
        for make in (lambda inner: [inner], lambda inner: [(0, inner)], lambda inner: [(inner, 0)]):
            self.assertIs(shows_moves(self.THINGS, self.NEWS, self.NEWS, nested(make, 20, [])), False)

    def test_drawn_ones(self):
        shown = {True: 0, False: 0}
        for seed in range(1, 3000):
            dice = Dice(seed)
            things, olds, news = drawn_moving(dice, 4, False)
            tried = moves(things, olds, news)
            if tried:
                at = dice.below(len(tried))
                what = dice.below(4)
                if what == 0:
                    tried.pop(at)
                elif what == 1:
                    tried[at] = (tried[at][0], tried[at][1] + dice.below(5) - 2)
                elif what == 2:
                    tried.insert(at, (dice.below(len(things)), dice.below(20)))
                else:
                    tried.reverse()
            told = played(things, olds, tried) == news
            shown[told] += 1
            self.assertIs(shows_moves(things, olds, news, tried), told, (things, olds, news, tried))
        self.assertGreater(min(shown.values()), 300)

    def test_what_is_looked_at_stays(self):
        things, olds, news, tried = self.THINGS, list(self.OLDS), list(self.NEWS), [(0, 12), (2, 0), (0, 8), [1, {}]]
        before = copy.deepcopy((olds, news, tried))
        self.assertIs(shows_moves(things, olds, news, tried), False)
        self.assertEqual((olds, news, tried), before)
        self.assertIs(shows_moves(things, olds, news, tried[:3]), True)
        self.assertEqual((olds, news, tried), before)

    def test_all_lie_apart_at_first_and_at_last(self):
        """What the tests above are made of: places at which no two lie over one another."""
        for seed in range(1, 100):
            things, olds, news = drawn_moving(Dice(seed), 8, seed > 50)
            for places in (olds, news):
                cells = [cell for thing, place in zip(things, places) for cell in rooms(thing, place)]
                self.assertEqual(len(set(cells)), len(cells))


if __name__ == "__main__":
    unittest.main()
