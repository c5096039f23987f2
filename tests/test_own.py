"""What is told is the asker's own, what is handed in stays, and the same question is told the same [2]."""

import copy
import unittest

from frameshare.flows import first_rows, given_behind, last_rows, next_rows, rows_of, written_ahead
from frameshare.lives import alive_behind, busy_behind, clashes, in_one_stretch, stretch_of
from frameshare.ways import is_way, way_of
from tests.samples import CALLING, SAMPLES, made_programs

LISTS = (
    rows_of, first_rows, last_rows, next_rows, written_ahead, given_behind, alive_behind, busy_behind, clashes,
)
LISTS_OF_LISTS = (next_rows, written_ahead, given_behind, alive_behind, busy_behind)
LISTS_OF_TUPLES = (rows_of, clashes)
PROGRAMS = SAMPLES + (CALLING,) + tuple(made_programs(60)) + tuple(made_programs(30, True))


def lists_in(told):
    """All lists of an answer, itself among them."""
    return [told] + [inner for inner in told if isinstance(inner, list)]


class OwnTest(unittest.TestCase):
    def test_kinds(self):
        for program in PROGRAMS:
            for tell in LISTS:
                self.assertIs(type(tell(program)), list, tell)
            for tell in LISTS_OF_LISTS:
                self.assertEqual({type(inner) for inner in tell(program)} - {list}, set(), tell)
            for tell in LISTS_OF_TUPLES:
                self.assertEqual({type(inner) for inner in tell(program)} - {tuple}, set(), tell)
            self.assertIs(type(way_of(program, [])), list)

    def test_no_two_lists_of_one_answer_are_the_same(self):
        for program in PROGRAMS:
            for tell in LISTS:
                lists = lists_in(tell(program))
                self.assertEqual(len({id(inner) for inner in lists}), len(lists), (tell, program))

    def test_no_list_is_told_twice(self):
        for program in PROGRAMS:
            lists = [inner for tell in LISTS + LISTS for inner in lists_in(tell(program))]
            self.assertEqual(len({id(inner) for inner in lists}), len(lists), program)

    def test_told_lists_that_are_changed_change_no_later_answer(self):
        for program in PROGRAMS:
            for tell in LISTS:
                told = tell(program)
                before = copy.deepcopy(told)
                for inner in lists_in(told):
                    inner.append(77)
                    inner.insert(0, 78)
                self.assertEqual(tell(program), before, tell)
                told.clear()
                self.assertEqual(tell(program), before, tell)

    def test_told_lists_that_are_changed_change_no_other_of_the_answer(self):
        for program in PROGRAMS:
            for tell in LISTS_OF_LISTS:
                for at in range(len(tell(program))):
                    told = tell(program)
                    before = copy.deepcopy(told)
                    told[at].append(77)
                    before[at].append(77)
                    self.assertEqual(told, before, tell)

    def test_no_answer_is_kept_by_another(self):
        for program in PROGRAMS:
            before = [copy.deepcopy(tell(program)) for tell in LISTS]
            for tell in LISTS:
                for inner in lists_in(tell(program)):
                    inner.clear()
            self.assertEqual([tell(program) for tell in LISTS], before, program)

    def test_ways_are_the_askers_own(self):
        for program in PROGRAMS:
            choices = [1, 0, 1]
            way = way_of(program, choices)
            before = list(way)
            self.assertEqual(choices, [1, 0, 1])
            self.assertIsNot(way, choices)
            way.append(77)
            self.assertEqual(way_of(program, choices), before)
            choices[0] = 0
            self.assertEqual(way_of(program, [1, 0, 1]), before)
            self.assertEqual(way_of(program, choices), way_of(program, [0, 0, 1]))

    def test_what_is_handed_in_stays(self):
        for program in PROGRAMS:
            before = copy.deepcopy(program)
            for tell in LISTS + (in_one_stretch,):
                tell(program)
            choices = [1, 1, 0]
            way = way_of(program, choices)
            asked = list(way)
            self.assertIs(is_way(program, asked), True)
            for t in range(len(program[0])):
                stretch_of(program, t)
            self.assertEqual(program, before)
            self.assertEqual(choices, [1, 1, 0])
            self.assertEqual(asked, way)

    def test_answers_do_not_hang_on_what_was_asked_ahead(self):
        forth = [[tell(program) for tell in LISTS] for program in PROGRAMS]
        back = [[tell(program) for tell in LISTS] for program in reversed(PROGRAMS)]
        self.assertEqual(forth, list(reversed(back)))


if __name__ == "__main__":
    unittest.main()
