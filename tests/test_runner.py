import copy
import unittest

from frameshare.lives import clashes
from frameshare.placings import first_over
from frameshare.rules import placed_by
from frameshare.runner import marked, shows_wrong_run, wrong_run
from frameshare.ways import way_of
from tests.oracle import IN, OUT, needs, runs, write
from tests.samples import (
    EMPTY, FORKED, HANDED, HOLLOW, LINE, LOOPED, QUIET, READ_A, READ_B, READ_C, SAMPLES, WRITE_A, WRITE_B, WRITE_C,
    Dice, made_programs, spread,
)
from tests.slow import rooms
from tests.wrongs import nested, other_values

TWO = ((4, 4), (8, 8))
TRIO = ((4, 4), (8, 8), (2, 2))


def slow_marked(program, places, marks):
    """By the times of the last writes: a thing lies whole where none that lies over it was written at or behind its."""
    things = program[0]
    last, given, way = {}, [], []
    near = [[u for u in range(len(things)) if u != t and rooms(things[t], places[t]) & rooms(things[u], places[u])]
            for t in range(len(things))]

    def is_whole(t):
        return t in last and all(last.get(u, -1) < last[t] for u in near[t])

    for row, item in [mark for mark in marks if mark not in (IN, OUT)]:
        way.append(row)
        looked = list(needs(item))
        broken = [t for t in looked if not is_whole(t)]
        if write(item) is not None:
            last[write(item)] = len(way)
        if item[0] == "give":
            given.append(item[1])
        if item[0] == "back":
            given.remove(item[1])
        broken += [t for t in sorted(given) if not is_whole(t)]
        if broken:
            return ("wrong", len(way), broken[0])
    return ("right", way)


def drawn_places(things, seed, most=4):
    dice = Dice(seed)
    return [border * dice.below(most) for size, border in things]


class MarkedTest(unittest.TestCase):
    def marked(self, items, places, choices, told):
        self.assertEqual(marked((TRIO, items), places, choices), told)

    def test_right_runs_tell_the_way(self):
        self.assertEqual(marked(EMPTY, [], []), ("right", []))
        self.assertEqual(marked(LINE, [0, 8, 0], []), ("right", [0, 1, 2, 3]))
        self.assertEqual(marked(LOOPED, [0, 8], [1, 1, 0]), ("right", way_of(LOOPED, [1, 1, 0])))
        self.assertEqual(marked(FORKED, [0, 8], [1, 1]), ("right", [0, 3, 4, 5]))
        self.assertEqual(marked(HANDED, [0, 8, 4], [1, 0]), ("right", way_of(HANDED, [1, 0])))
        self.assertEqual(marked(HOLLOW, [0], [1, 1, 0, 1, 1, 1, 0]), ("right", way_of(HOLLOW, [1, 1, 0, 1, 1, 1, 0])))

    def test_a_read_that_is_not_whole(self):
        self.marked((WRITE_A, WRITE_B, READ_A), [0, 0, 0], [], ("wrong", 3, 0))
        self.marked((WRITE_A, WRITE_B, QUIET, READ_B, READ_A, QUIET), [0, 0, 0], [], ("wrong", 5, 0))

    def test_one_room_is_enough(self):
        self.marked((WRITE_A, WRITE_B, READ_A), [8, 0, 0], [], ("right", [0, 1, 2]))
        self.marked((WRITE_B, WRITE_C, READ_B), [0, 0, 6], [], ("wrong", 3, 1))
        self.marked((WRITE_B, WRITE_C, READ_B), [0, 0, 8], [], ("right", [0, 1, 2]))
        self.marked((WRITE_C, WRITE_B, READ_C), [0, 8, 8], [], ("wrong", 3, 2))
        self.marked((WRITE_C, WRITE_B, READ_C), [0, 8, 6], [], ("right", [0, 1, 2]))

    def test_a_spoiled_thing_that_is_not_needed(self):
        self.marked((WRITE_A, READ_A, WRITE_B, READ_B), [0, 0, 0], [], ("right", [0, 1, 2, 3]))

    def test_written_again_it_lies_whole_again(self):
        self.marked((WRITE_A, WRITE_B, WRITE_A, READ_A), [0, 0, 0], [], ("right", [0, 1, 2, 3]))
        self.marked((WRITE_A, WRITE_B, WRITE_A, READ_A, READ_B), [0, 0, 0], [], ("wrong", 5, 1))

    def test_the_first_read_from_the_left(self):
        self.marked((WRITE_A, WRITE_B, WRITE_C, ("row", (1, 0, 2), None)), [0, 0, 0], [], ("wrong", 4, 1))
        self.marked((WRITE_A, WRITE_B, WRITE_C, ("row", (2, 0, 1), None)), [0, 0, 0], [], ("wrong", 4, 0))
        self.marked((WRITE_A, WRITE_B, WRITE_C, ("row", (2, 0), None)), [0, 8, 0], [], ("wrong", 4, 0))
        self.marked((WRITE_A, WRITE_C, ("row", (2, 0), None)), [4, 8, 0], [], ("right", [0, 1, 2]))

    def test_a_row_reads_ahead_of_its_write(self):
        self.marked((WRITE_A, ("row", (0,), 1), READ_B), [0, 0, 0], [], ("right", [0, 1, 2]))
        self.marked((WRITE_A, ("row", (0,), 0), READ_A), [0, 0, 0], [], ("right", [0, 1, 2]))
        self.marked((WRITE_A, WRITE_B, ("row", (0,), 0)), [0, 0, 0], [], ("wrong", 3, 0))
        self.marked((WRITE_A, ("row", (0,), 1), ("row", (1, 0), 0)), [0, 0, 0], [], ("wrong", 3, 0))

    def test_what_is_given(self):
        self.marked((WRITE_A, WRITE_B, ("give", 0)), [0, 0, 0], [], ("wrong", 3, 0))
        self.marked((WRITE_A, WRITE_B, ("give", 1), ("back", 1)), [0, 0, 0], [], ("right", [0, 1, 2, 3]))

    def test_what_is_given_comes_ahead_of_what_is_handed_out(self):
        # The thing 0 is handed out and spoiled as 1 is written: found behind the row 2, ahead of giving 1.
        self.marked((WRITE_A, ("give", 0), WRITE_B, ("give", 1)), [0, 0, 0], [], ("wrong", 3, 0))
        # Neither is whole as 2 is given; the thing 0 is handed out later.
        self.marked((WRITE_C, WRITE_B, WRITE_A, ("give", 0), ("give", 2)), [0, 0, 0], [], ("wrong", 5, 2))

    def test_handed_out_behind_a_row(self):
        self.marked((WRITE_A, ("give", 0), QUIET, WRITE_B), [0, 0, 0], [], ("wrong", 4, 0))
        self.marked((WRITE_A, ("give", 0), ("back", 0), WRITE_B), [0, 0, 0], [], ("right", [0, 1, 2, 3]))
        self.marked((WRITE_A, ("give", 0), WRITE_A, ("back", 0)), [0, 0, 0], [], ("right", [0, 1, 2, 3]))

    def test_handed_out_ones_rising(self):
        things = ((2, 1), (2, 1), (4, 1))
        items = (WRITE_A, WRITE_B, ("give", 1), ("give", 0), WRITE_C)
        self.assertEqual(marked((things, items), [0, 2, 0], []), ("wrong", 5, 0))
        self.assertEqual(marked((things, items), [4, 2, 0], []), ("wrong", 5, 1))
        self.assertEqual(marked((things, items), [4, 6, 0], []), ("right", [0, 1, 2, 3, 4]))

    def test_reads_come_ahead_of_what_is_handed_out(self):
        # As 2 is read and written it isn't whole; the thing 0, which the write spoils, comes behind it.
        items = (WRITE_C, WRITE_A, ("give", 0), ("row", (2,), 2))
        self.marked(items, [0, 0, 0], [], ("wrong", 4, 2))
        self.marked((WRITE_A, ("give", 0), WRITE_C), [0, 8, 0], [], ("wrong", 3, 0))

    def test_rounds_gone_often(self):
        self.assertEqual(marked(LOOPED, [0, 8], [1] * 199 + [0]), ("right", [0] + [1, 2, 3] * 199 + [4]))
        self.assertEqual(marked(LOOPED, [0, 8], [1] * 200), ("right", [0] + [1, 2, 3] * 200 + [4]))
        items = (WRITE_A, ("round", (WRITE_C, ("either", (READ_C,), (READ_C, WRITE_B)))), READ_A)
        self.marked(items, [0, 0, 4], [1, 0] * 99 + [1, 1], ("wrong", 1 + 99 * 2 + 3 + 1, 0))
        self.marked(items, [0, 0, 4], [1, 0] * 100, ("right", [0] + [1, 2] * 100 + [5]))

    def test_a_way_s_later_rows_do_not_count(self):
        self.marked((WRITE_A, WRITE_B, READ_A, ("either", (READ_A,), ())), [0, 0, 0], [1], ("wrong", 3, 0))

    def test_great_ones(self):
        great = 10 ** 10 - 1
        program = (((great, 1), (great, great)), (WRITE_A, WRITE_B, READ_A))
        self.assertEqual(marked(program, [0, great], []), ("right", [0, 1, 2]))
        self.assertEqual(marked(program, [1, great], []), ("wrong", 3, 0))
        self.assertEqual(marked(program, [2 * great, great], []), ("right", [0, 1, 2]))
        self.assertEqual(marked(program, [2 * great - 1, great], []), ("wrong", 3, 0))

    def test_by_the_times_of_writes(self):
        wrong = right = 0
        for seed, program in enumerate(made_programs(600, most_runs=60) + list(SAMPLES)):
            for places in (drawn_places(program[0], seed), drawn_places(program[0], seed + 500, 7),
                           placed_by(program, "great")):
                for choices, marks in runs(program[1]):
                    told = slow_marked(program, places, marks)
                    self.assertEqual(marked(program, places, choices), told, (program, places, choices))
                    wrong += told[0] == "wrong"
                    right += told[0] == "right"
                    while choices and choices[-1] == 0:
                        choices = choices[:-1]
                    self.assertEqual(marked(program, places, choices), told)
        self.assertGreater(wrong, 500)
        self.assertGreater(right, 500)

    def test_kinds(self):
        told = marked(LINE, [0, 8, 0], [])
        self.assertIs(type(told), tuple)
        self.assertIs(type(told[1]), list)
        told = marked((TRIO, (WRITE_A, WRITE_B, READ_A)), [0, 0, 0], [])
        self.assertIs(type(told), tuple)
        self.assertEqual([type(part) for part in told], [str, int, int])

    def test_told_and_handed_in_lists_stay_apart(self):
        places, choices = [0, 8], [1, 0]
        told = marked(LOOPED, places, choices)
        told[1].append(77)
        self.assertEqual((places, choices), ([0, 8], [1, 0]))
        self.assertEqual(marked(LOOPED, places, choices), ("right", [0, 1, 2, 3, 4]))
        choices.clear()
        self.assertEqual(marked(LOOPED, places, choices), ("right", [0, 4]))


class WrongRunTest(unittest.TestCase):
    def wrong(self, program, places):
        told = wrong_run(program, places)
        self.assertIs(type(told), list, (program, places))
        self.assertLessEqual(set(told), {0, 1})
        self.assertEqual(marked(program, places, told)[0], "wrong", (program, places, told))
        self.assertIs(shows_wrong_run(program, places, told), True)
        return told

    def test_none_where_no_two_that_clash_lie_over_one_another(self):
        self.assertIsNone(wrong_run(EMPTY, []))
        self.assertIsNone(wrong_run(LINE, [0, 8, 0]))
        self.assertIsNone(wrong_run(LOOPED, [0, 0]))
        self.assertIsNone(wrong_run(HANDED, [0, 8, 4]))
        self.assertIsNone(wrong_run(HOLLOW, [0]))

    def test_in_a_line(self):
        self.wrong((TRIO, (WRITE_A, WRITE_B, READ_A)), [0, 0, 0])
        self.wrong(LINE, [0, 0, 0])
        self.wrong(LINE, [8, 8, 0])

    def test_an_either_s_sides(self):
        self.wrong((TWO, (WRITE_A, WRITE_B, ("either", (), (READ_A,)))), [0, 0])
        self.wrong((TWO, (WRITE_A, WRITE_B, ("either", (READ_A,), ()))), [0, 0])
        self.wrong((TWO, (WRITE_A, ("either", (WRITE_A,), (WRITE_B,)), READ_A)), [0, 0])
        self.wrong((TWO, (WRITE_A, ("either", (), (("either", (), (WRITE_B,)),)), READ_A)), [0, 0])
        self.wrong((TWO, (WRITE_A, ("either", (WRITE_B,), ()), ("either", (WRITE_A,), ()), READ_A)), [0, 0])

    def test_a_round_gone_once(self):
        self.wrong((TWO, (WRITE_A, ("round", (WRITE_B,)), READ_A)), [0, 0])
        self.wrong((TWO, (WRITE_A, WRITE_B, ("round", (READ_A,)))), [0, 0])

    def test_a_round_gone_more_than_once(self):
        # The thing 0 is read again only as the round is gone again.
        program = (TWO, (WRITE_A, ("round", (READ_A, WRITE_B))))
        told = self.wrong(program, [0, 0])
        self.assertGreaterEqual(sum(told), 2)
        self.assertEqual(marked(program, [0, 0], [1]), ("right", [0, 1, 2]))
        program = (TWO, (WRITE_A, ("round", (("either", (READ_A,), (WRITE_B,)), QUIET))))
        self.wrong(program, [0, 0])

    def test_rounds_within_one_another(self):
        self.wrong((TWO, (WRITE_A, ("round", (("round", (READ_A, ("round", (("round", ()), WRITE_B)))),)))), [0, 0])
        self.wrong((TWO, (WRITE_A, ("round", (READ_A, ("round", ()), ("either", (), (WRITE_B,)))))), [0, 0])

    def test_handed_out(self):
        self.wrong((TWO, (WRITE_A, ("give", 0), WRITE_B)), [0, 0])
        self.wrong((TWO, (WRITE_B, WRITE_A, ("give", 0), ("round", (WRITE_B,)), ("back", 0))), [0, 0])
        self.wrong((TWO, (WRITE_B, ("either", (), (WRITE_A, ("give", 0), WRITE_B, ("back", 0))))), [0, 0])

    def test_the_one_that_was_written_earlier(self):
        # Behind the row 3 both are alive; which one isn't whole hangs on the way there.
        sides = ("either", (WRITE_A, WRITE_B), (WRITE_B, WRITE_A))
        program = (TWO, (sides, QUIET, ("either", (READ_A,), (READ_B,))))
        self.wrong(program, [0, 0])

    def test_a_write_on_the_way_makes_it_whole(self):
        # Going on straight the thing 0 is written again: only around this its read is wrong.
        items = (WRITE_A, WRITE_B, ("either", (WRITE_A,), (QUIET,)), READ_A)
        self.assertEqual(self.wrong((TWO, items), [0, 0]), [1])

    def test_just_where_two_that_clash_lie_over_one_another(self):
        wrong = right = 0
        for seed, program in enumerate(made_programs(400) + list(SAMPLES)):
            for places in (drawn_places(program[0], seed), drawn_places(program[0], seed + 700, 8)):
                if first_over(program[0], clashes(program), places) is None:
                    self.assertIsNone(wrong_run(program, places), (program, places))
                    right += 1
                else:
                    self.wrong(program, places)
                    wrong += 1
        self.assertGreater(wrong, 100)
        self.assertGreater(right, 100)

    def test_no_run_is_wrong_where_none_is_told(self):
        for seed, program in enumerate(made_programs(150, most_runs=80)):
            for places in (drawn_places(program[0], seed + 900), placed_by(program, "early")):
                found = [choices for choices, marks in runs(program[1])
                         if slow_marked(program, places, marks)[0] == "wrong"]
                self.assertEqual(wrong_run(program, places) is None, not found, (program, places))

    def test_among_twenty_things(self):
        for program in made_programs(60):
            program = spread(program)
            pairs = clashes(program)
            for t, u in pairs:
                # Just these two lie over one another.
                places = [100 * (v + 1) for v in range(20)]
                places[t] = places[u] = 0
                self.wrong(program, places)
            self.assertIsNone(wrong_run(program, [100 * v for v in range(20)]))

    def test_a_hundred_rows_five_deep(self):
        inner = (READ_A, ("round", (("either", (QUIET,) * 20, (QUIET,) * 20 + (WRITE_B,)),)))
        for count in range(2):
            inner = (("either", (QUIET,) * 10, inner),)
        program = (TWO, (WRITE_A, ("round", inner + (QUIET,) * 10), WRITE_A, READ_A))
        self.wrong(program, [0, 0])
        self.assertIsNone(wrong_run(program, [8, 0]))


class ShowsWrongRunTest(unittest.TestCase):
    # Right where the round is gone at most once.
    program = (TWO, (WRITE_A, ("round", (READ_A, WRITE_B))))

    def test_wrong_choices(self):
        for choices in ([1, 1], [1, 1, 0], [1, 1, 1], [1, 1, 0, 0, 1], [1] * 200):
            self.assertIs(shows_wrong_run(self.program, [0, 0], choices), True, choices)
        self.assertIs(shows_wrong_run((TWO, (WRITE_A, WRITE_B, READ_A)), [0, 0], []), True)

    def test_right_choices(self):
        for choices in ([], [0], [1], [1, 0], [0, 1], [0, 1, 1], [1, 0, 1]):
            self.assertIs(shows_wrong_run(self.program, [0, 0], choices), False, choices)
            self.assertIs(shows_wrong_run(self.program, [8, 0], choices + [1, 1, 1]), False, choices)

    def test_other_kinds_in_a_choice_s_place(self):
        for choice in [2, -1, True, False, None, "", "1", (), (1,), [], [1], {}, 10 ** 12] + other_values():
            if choice not in (0, 1) or isinstance(choice, bool):
                for choices in ([1, 1, choice], [1, choice], [choice], [1, choice, 1, 1], [choice, 1, 1]):
                    self.assertIs(shows_wrong_run(self.program, [0, 0], choices), False, choices)
                    self.assertIs(shows_wrong_run((TWO, (WRITE_A, WRITE_B, READ_A)), [0, 0], choices), False, choices)

    def test_other_kinds_in_the_place_of_the_list(self):
        for thing in [(), (1, 1), {1: 1}, "11", {}, [[1, 1]], [(1, 1)], {0: 1, 1: 1}] + other_values():
            self.assertIs(shows_wrong_run(self.program, [0, 0], thing), False, thing)
            self.assertIs(shows_wrong_run((TWO, (WRITE_A, WRITE_B, READ_A)), [0, 0], thing), False, thing)

    def test_choices_nested_forty_deep(self):
        for make in (lambda inner: (inner,), lambda inner: [inner], lambda inner: {0: inner}):
            for deep in (1, 2, 10, 38):
                self.assertIs(shows_wrong_run(self.program, [0, 0], nested(make, deep, [1, 1])), False)

    def test_what_is_handed_in_stays(self):
        odd, places = [0, [1], {"a": [2]}], [0, 0]
        before = copy.deepcopy(odd)
        self.assertIs(shows_wrong_run(self.program, places, odd), False)
        choices = [1, 1]
        self.assertIs(shows_wrong_run(self.program, places, choices), True)
        told = wrong_run(self.program, places)
        told.append(0)
        self.assertEqual(wrong_run(self.program, places), told[:-1])
        self.assertEqual((odd, places, choices), (before, [0, 0], [1, 1]))


if __name__ == "__main__":
    unittest.main()
