"""What is told is the asker's own, what is handed in stays, and the same question is told the same [2]."""

import copy
import unittest

from frameshare.bounds import best_stack, bound, crowd_bound, loads, stack
from frameshare.flows import first_rows, given_behind, last_rows, next_rows, rows_of, written_ahead
from frameshare.least import is_least, least
from frameshare.lives import alive_behind, busy_behind, clashes, in_one_stretch, stretch_of
from frameshare.placings import first_over, is_placing
from frameshare.rules import order_by, placed, placed_by, roofs
from frameshare.ways import is_way, way_of
from tests.samples import CALLING, SAMPLES, made_frames, made_programs

WORDS = ("told", "great", "long", "early")


def by_word(tell, word):
    return lambda program: tell(program, word)


LISTS = (
    rows_of, first_rows, last_rows, next_rows, written_ahead, given_behind, alive_behind, busy_behind, clashes, loads,
) + tuple(by_word(tell, word) for tell in (order_by, placed_by) for word in WORDS)
LISTS_OF_LISTS = (next_rows, written_ahead, given_behind, alive_behind, busy_behind)
LISTS_OF_TUPLES = (rows_of, clashes)
PROGRAMS = SAMPLES + (CALLING,) + tuple(made_programs(60)) + tuple(made_programs(30, True))


def lists_in(told):
    """All lists of an answer, itself among them."""
    return [told] + [inner for inner in told if isinstance(inner, list)]


class OwnTest(unittest.TestCase):
    def test_kinds(self):
        for program in PROGRAMS:
            for tell in LISTS:
                self.assertIs(type(tell(program)), list, tell)
            for tell in LISTS_OF_LISTS:
                self.assertEqual({type(inner) for inner in tell(program)} - {list}, set(), tell)
            for tell in LISTS_OF_TUPLES:
                self.assertEqual({type(inner) for inner in tell(program)} - {tuple}, set(), tell)
            self.assertIs(type(way_of(program, [])), list)

    def test_no_two_lists_of_one_answer_are_the_same(self):
        for program in PROGRAMS:
            for tell in LISTS:
                lists = lists_in(tell(program))
                self.assertEqual(len({id(inner) for inner in lists}), len(lists), (tell, program))

    def test_no_list_is_told_twice(self):
        for program in PROGRAMS:
            lists = [inner for tell in LISTS + LISTS for inner in lists_in(tell(program))]
            self.assertEqual(len({id(inner) for inner in lists}), len(lists), program)

    def test_told_lists_that_are_changed_change_no_later_answer(self):
        for program in PROGRAMS:
            for tell in LISTS:
                told = tell(program)
                before = copy.deepcopy(told)
                for inner in lists_in(told):
                    inner.append(77)
                    inner.insert(0, 78)
                self.assertEqual(tell(program), before, tell)
                told.clear()
                self.assertEqual(tell(program), before, tell)

    def test_told_lists_that_are_changed_change_no_other_of_the_answer(self):
        for program in PROGRAMS:
            for tell in LISTS_OF_LISTS:
                for at in range(len(tell(program))):
                    told = tell(program)
                    before = copy.deepcopy(told)
                    told[at].append(77)
                    before[at].append(77)
                    self.assertEqual(told, before, tell)

    def test_no_answer_is_kept_by_another(self):
        for program in PROGRAMS:
            before = [copy.deepcopy(tell(program)) for tell in LISTS]
            for tell in LISTS:
                for inner in lists_in(tell(program)):
                    inner.clear()
            self.assertEqual([tell(program) for tell in LISTS], before, program)

    def test_ways_are_the_askers_own(self):
        for program in PROGRAMS:
            choices = [1, 0, 1]
            way = way_of(program, choices)
            before = list(way)
            self.assertEqual(choices, [1, 0, 1])
            self.assertIsNot(way, choices)
            way.append(77)
            self.assertEqual(way_of(program, choices), before)
            choices[0] = 0
            self.assertEqual(way_of(program, [1, 0, 1]), before)
            self.assertEqual(way_of(program, choices), way_of(program, [0, 0, 1]))

    def test_what_is_handed_in_stays(self):
        for program in PROGRAMS:
            before = copy.deepcopy(program)
            for tell in LISTS + (in_one_stretch, bound, crowd_bound):
                tell(program)
            choices = [1, 1, 0]
            way = way_of(program, choices)
            asked = list(way)
            self.assertIs(is_way(program, asked), True)
            for t in range(len(program[0])):
                stretch_of(program, t)
            self.assertEqual(program, before)
            self.assertEqual(choices, [1, 1, 0])
            self.assertEqual(asked, way)

    def test_answers_do_not_hang_on_what_was_asked_ahead(self):
        forth = [[tell(program) for tell in LISTS] for program in PROGRAMS]
        back = [[tell(program) for tell in LISTS] for program in reversed(PROGRAMS)]
        self.assertEqual(forth, list(reversed(back)))


FRAMES = made_frames(60, 6)
# Of things, pairs and an order of all: what is told of these, each with a list in it.
OF_FRAMES = (
    placed,
    roofs,
    lambda things, pairs, order: stack(things, order),
    lambda things, pairs, order: best_stack(things)[1],
    lambda things, pairs, order: least(things, pairs)[1],
)


class OwnPlacesTest(unittest.TestCase):
    def test_told_lists_that_are_changed_change_no_later_answer(self):
        for things, pairs in FRAMES:
            order = list(reversed(range(len(things))))
            for tell in OF_FRAMES:
                told = tell(things, pairs, order)
                self.assertIs(type(told), list)
                before = list(told)
                told.append(77)
                told.insert(0, 78)
                self.assertEqual(tell(things, pairs, order), before)

    def test_no_list_is_told_twice_or_handed_in(self):
        for things, pairs in FRAMES:
            order = list(range(len(things)))
            lists = [pairs, order] + [tell(things, pairs, order) for tell in OF_FRAMES + OF_FRAMES]
            self.assertEqual(len({id(told) for told in lists}), len(lists))

    def test_what_is_handed_in_stays(self):
        for things, pairs in FRAMES:
            order = list(reversed(range(len(things))))
            places = [0 for thing in things]
            before = copy.deepcopy((things, pairs, order, places))
            for tell in OF_FRAMES:
                tell(things, pairs, order)
            first_over(things, pairs, places)
            is_placing(things, pairs, places)
            is_least(things, pairs, places)
            self.assertEqual((things, pairs, order, places), before)

    def test_what_is_handed_in_is_not_kept(self):
        for things, pairs in FRAMES:
            order = list(range(len(things)))
            told = [tell(things, list(pairs), list(order)) for tell in OF_FRAMES]
            before = copy.deepcopy(told)
            again = list(pairs)
            for tell in OF_FRAMES:
                tell(things, again, order)
            again.clear()
            order.reverse()
            self.assertEqual(told, before)
            self.assertEqual([tell(things, pairs, sorted(order)) for tell in OF_FRAMES], before)

    def test_pairs_are_tuples(self):
        for program in PROGRAMS:
            self.assertIs(type(bound(program)), tuple)
            self.assertIs(type(crowd_bound(program)), tuple)
        for things, pairs in FRAMES:
            self.assertIs(type(best_stack(things)), tuple)
            self.assertIs(type(least(things, pairs)), tuple)


if __name__ == "__main__":
    unittest.main()
