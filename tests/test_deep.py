import copy
import itertools
import unittest

from frameshare.deep import deep
from frameshare.frames import frames
from frameshare.houses import is_house
from frameshare.runner import marked
from tests.samples import (
    EMPTY, LINE, LOOPED, QUIET, READ_A, READ_B, SAMPLES, WRITE_A, WRITE_B, Dice, made_houses, made_programs,
)
from tests.slow_house import calls_in, slow_deep

WORDS = ("told", "great", "long", "early")
GREAT = 10 ** 10 - 1
GIVE_A, BACK_A, GIVE_B, BACK_B = ("give", 0), ("back", 0), ("give", 1), ("back", 1)
CALL = ("call", 0, (), None)
FOUR = ((4, 1),)
TWO = ((4, 1), (4, 1))
# Writes and reads its one thing of four rooms.
INNER = (FOUR, (WRITE_A, READ_A))
AT_0 = (0, 0, [0], [])


def frame(places, *rooms):
    """A frame of which alone places and rooms count."""
    return (0, 0, list(places), list(rooms))


class DeepTest(unittest.TestCase):
    def deep(self, house, some, choices, told):
        self.assertIs(is_house(house), True, house)
        answer = deep(house, some, choices)
        self.assertEqual(answer, told)
        self.assertIs(type(answer), tuple)
        self.assertEqual(slow_deep(house, some, choices), told)

    def test_one_function(self):
        self.deep((EMPTY,), [frame([])], [], ("right", 0))
        self.deep((INNER,), [AT_0], [], ("right", 2))
        self.deep((LINE,), [frame([0, 8, 0])], [], ("right", 4))
        self.deep(((TWO, (WRITE_A, WRITE_B, READ_A)),), [frame([0, 0])], [], ("wrong", 3, 0, 0))
        self.deep(((TWO, (WRITE_A, WRITE_B, READ_A)),), [frame([0, 4])], [], ("right", 3))

    def test_the_last_function_is_gone(self):
        wrong = (TWO, (WRITE_A, WRITE_B, READ_A))
        self.deep((wrong, INNER), [frame([0, 0]), AT_0], [], ("right", 2))
        self.deep((INNER, wrong), [AT_0, frame([0, 0])], [], ("wrong", 3, 0, 0))

    def test_a_call_counts_ahead_of_those_within(self):
        self.deep((INNER, ((), (CALL,))), [AT_0, frame([], (0, 0))], [], ("right", 3))
        self.deep((EMPTY, ((), (CALL, QUIET, CALL))), [frame([]), frame([], (0, 0), (2, 0))], [], ("right", 3))
        wrong = (TWO, (WRITE_A, WRITE_B, READ_A))
        self.deep((wrong, ((), (QUIET, CALL))), [frame([0, 0]), frame([], (1, 0))], [], ("wrong", 5, 1, 0))

    def test_a_called_ones_write_spoils_its_asker(self):
        asker = (FOUR, (WRITE_A, CALL, READ_A))
        self.deep((INNER, asker), [AT_0, frame([0], (1, 4))], [], ("right", 5))
        self.deep((INNER, asker), [AT_0, frame([0], (1, 3))], [], ("wrong", 5, 0, 0))
        self.deep((INNER, asker), [AT_0, frame([0], (1, 0))], [], ("wrong", 5, 0, 0))
        self.deep((INNER, asker), [AT_0, frame([5], (1, 2))], [], ("wrong", 5, 0, 0))
        self.deep((INNER, asker), [AT_0, frame([5], (1, 1))], [], ("right", 5))

    def test_places_count_from_the_rooms_place_on(self):
        asker = (FOUR, (WRITE_A, CALL, READ_A))
        self.deep((INNER, asker), [frame([6]), frame([8], (1, 0))], [], ("wrong", 5, 0, 0))
        self.deep((INNER, asker), [frame([6]), frame([8], (1, 6))], [], ("right", 5))
        self.deep((INNER, asker), [frame([6]), frame([8], (1, 5))], [], ("wrong", 5, 0, 0))

    def test_rooms_within_rooms_count_from_the_askers_begin_on(self):
        house = (INNER, ((), (CALL,)), (FOUR, (WRITE_A, ("call", 1, (), None), READ_A)))
        for place, there, told in (
            (0, 0, "wrong"), (4, 0, "right"), (0, 4, "right"), (2, 2, "right"), (1, 2, "wrong"), (2, 1, "wrong"),
            (3, 1, "right"),
        ):
            some = [AT_0, frame([], (0, place)), frame([0], (1, there))]
            self.deep(house, some, [], (told, 6) if told == "right" else (told, 6, 0, 0))

    def test_an_askers_write_comes_behind_what_is_within(self):
        asker = (FOUR, (("call", 0, (), 0), READ_A))
        self.deep((INNER, asker), [AT_0, frame([0], (0, 0))], [], ("right", 4))
        asker = (FOUR, (WRITE_A, ("call", 0, (0,), 0), READ_A))
        self.deep((INNER, asker), [AT_0, frame([0], (1, 0))], [], ("right", 5))

    def test_a_read_of_a_call_that_is_not_whole(self):
        asker = (TWO, (WRITE_A, WRITE_B, ("call", 0, (1, 0), None)))
        self.deep((INNER, asker), [AT_0, frame([0, 0], (2, 8))], [], ("wrong", 3, 0, 0))
        self.deep((INNER, asker), [AT_0, frame([0, 4], (2, 8))], [], ("right", 5))
        asker = (((4, 1), (4, 1), (8, 1)), (WRITE_A, WRITE_B, ("row", (), 2), ("call", 0, (1, 0), None)))
        self.deep((INNER, asker), [AT_0, frame([0, 4, 0], (3, 8))], [], ("wrong", 4, 0, 1))

    def test_what_a_call_reads_is_read_ahead_of_it(self):
        asker = (FOUR, (WRITE_A, ("call", 0, (0,), None)))
        self.deep((INNER, asker), [AT_0, frame([0], (1, 0))], [], ("right", 4))

    def test_a_read_in_a_called_one(self):
        called = (TWO, (WRITE_A, WRITE_B, READ_A))
        asker = (FOUR, (WRITE_A, CALL, READ_A))
        self.deep((called, asker), [frame([0, 0]), frame([0], (1, 8))], [], ("wrong", 5, 1, 0))
        self.deep((called, asker), [frame([0, 3]), frame([0], (1, 8))], [], ("wrong", 5, 1, 0))
        self.deep((called, asker), [frame([0, 4]), frame([0], (1, 8))], [], ("right", 6))

    def test_an_askers_write_spoils_nothing_within(self):
        # What the asker wrote ahead of the call lies over the called one's things, which are written later.
        asker = (FOUR, (WRITE_A, CALL, WRITE_A, CALL))
        self.deep((INNER, asker), [AT_0, frame([0], (1, 0), (3, 0))], [], ("right", 8))

    def test_things_are_anew_at_each_call(self):
        # The second call reads what was written in the first one: each time it's written on its own way first.
        called = (FOUR, (("either", (WRITE_A,), (WRITE_A, QUIET)), READ_A))
        house = (called, ((), (CALL, CALL)))
        self.deep(house, [AT_0, frame([], (0, 0), (1, 8))], [0, 1], ("right", 7))
        # Given at the end of a call, it's over there: a later write over it is right.
        called = (FOUR, (WRITE_A, GIVE_A))
        asker = (FOUR, (CALL, WRITE_A, READ_A, CALL, QUIET))
        self.deep((called, asker), [AT_0, frame([0], (0, 0), (3, 0))], [], ("right", 9))

    def test_handed_out_and_spoiled_within(self):
        asker = (FOUR, (WRITE_A, GIVE_A, CALL, BACK_A))
        self.deep((INNER, asker), [AT_0, frame([0], (2, 0))], [], ("wrong", 4, 0, 0))
        self.deep((INNER, asker), [AT_0, frame([0], (2, 4))], [], ("right", 6))
        called = (FOUR, (QUIET, QUIET, WRITE_A))
        self.deep((called, asker), [AT_0, frame([0], (2, 1))], [], ("wrong", 6, 0, 0))

    def test_handed_out_by_the_asker_of_the_asker(self):
        house = (INNER, ((), (QUIET, CALL)), (FOUR, (WRITE_A, GIVE_A, ("call", 1, (), None), BACK_A)))
        self.deep(house, [AT_0, frame([], (1, 0)), frame([0], (2, 0))], [], ("wrong", 6, 0, 0))
        house = (INNER, (FOUR, (WRITE_A, GIVE_A, CALL)), ((), (("call", 1, (), None),)))
        self.deep(house, [AT_0, frame([0], (2, 0)), frame([], (0, 0))], [], ("wrong", 5, 1, 0))

    def test_handed_out_and_written_by_the_call(self):
        # The write mends it, but it was found ahead of that.
        asker = (FOUR, (WRITE_A, GIVE_A, ("call", 0, (), 0), BACK_A))
        self.deep((INNER, asker), [AT_0, frame([0], (2, 0))], [], ("wrong", 4, 0, 0))
        self.deep((EMPTY, asker), [frame([]), frame([0], (2, 0))], [], ("right", 4))

    def test_handed_out_and_spoiled_by_the_calls_write(self):
        asker = (TWO, (WRITE_A, GIVE_A, ("call", 0, (), 1), BACK_A))
        self.deep((INNER, asker), [AT_0, frame([0, 0], (2, 8))], [], ("wrong", 5, 0, 0))
        self.deep((EMPTY, asker), [frame([]), frame([0, 3], (2, 8))], [], ("wrong", 3, 0, 0))
        self.deep((INNER, asker), [AT_0, frame([0, 4], (2, 8))], [], ("right", 6))

    def test_the_innermost_ones_first_each_rising(self):
        # One write of the innermost spoils what all three hand out, and its own one is found first.
        wide = ((2, 1), (2, 1), (4, 1))
        gives = (WRITE_A, WRITE_B, GIVE_B, GIVE_A)
        inmost = (wide, gives + (("row", (), 2),))
        house = (inmost, (TWO, gives + (CALL,)), (TWO, gives + (("call", 1, (), None),)))
        # In its own frame, and so in the others, the innermost one's things lie from these begins on.
        self.deep(house, [frame([0, 2, 0]), frame([10, 14], (4, 20)), frame([0, 4], (4, 10))], [], ("wrong", 15, 2, 0))
        self.deep(house, [frame([4, 2, 0]), frame([10, 14], (4, 20)), frame([0, 4], (4, 10))], [], ("wrong", 15, 2, 1))
        # The innermost one's own lie aside: the write at 14 lies over the middle's at 12 and 16, that at 17 over one.
        self.deep(house, [frame([20, 22, 0]), frame([2, 6], (4, 4)), frame([0, 4], (4, 10))], [], ("wrong", 15, 1, 0))
        self.deep(house, [frame([20, 22, 0]), frame([2, 6], (4, 7)), frame([0, 4], (4, 10))], [], ("wrong", 15, 1, 1))
        # The middle's lie aside, too.
        self.deep(house, [frame([20, 22, 0]), frame([30, 40], (4, 0)), frame([7, 11], (4, 10))], [],
                  ("wrong", 15, 0, 0))
        self.deep(house, [frame([20, 22, 0]), frame([30, 40], (4, 0)), frame([0, 13], (4, 10))], [],
                  ("wrong", 15, 0, 1))
        self.deep(house, [frame([20, 22, 0]), frame([30, 40], (4, 0)), frame([0, 4], (4, 10))], [], ("right", 15))

    def test_all_spoiled_by_one_write(self):
        # The last write, on 20 rooms from 0 on, lies over all that is handed out: two by each of three functions.
        gives = (WRITE_A, WRITE_B, GIVE_B, GIVE_A)
        inmost = (((2, 1), (2, 1), (20, 1)), gives + (("row", (), 2),))
        house = (inmost, (TWO, gives + (CALL,)), (TWO, gives + (("call", 1, (), None),)))
        middle, outer = frame([4, 8], (4, 0)), frame([12, 16], (4, 0))
        aside, aside_too = frame([40, 50], (4, 0)), frame([60, 70], (4, 0))
        self.deep(house, [frame([0, 2, 0]), middle, outer], [], ("wrong", 15, 2, 0))
        self.deep(house, [frame([30, 2, 0]), middle, outer], [], ("wrong", 15, 2, 1))
        self.deep(house, [frame([0, 2, 0]), aside, outer], [], ("wrong", 15, 2, 0))
        self.deep(house, [frame([30, 32, 0]), middle, outer], [], ("wrong", 15, 1, 0))
        self.deep(house, [frame([30, 32, 0]), aside, outer], [], ("wrong", 15, 0, 0))
        self.deep(house, [frame([30, 32, 0]), middle, aside_too], [], ("wrong", 15, 1, 0))
        self.deep(house, [frame([30, 32, 0]), aside, aside_too], [], ("right", 15))

    def test_what_is_handed_out_is_looked_at_behind_each_row(self):
        # The called one's second write spoils its first thing, which is found as that is read, behind one row more.
        called = (TWO, (WRITE_A, WRITE_B, READ_A))
        asker = (FOUR, (WRITE_A, GIVE_A, CALL))
        self.deep((called, asker), [frame([4, 4]), frame([9], (2, 1))], [], ("wrong", 6, 1, 0))
        # Where it spoils the asker's, too, that is found at once.
        self.deep((called, asker), [frame([4, 5]), frame([9], (2, 1))], [], ("wrong", 5, 0, 0))

    def test_choices_are_taken_in_turn_by_all(self):
        called = ((), (("either", (QUIET,), (QUIET, QUIET)),))
        asker = ((), (("round", (CALL, ("either", (), (QUIET,)))), QUIET))
        house, some = (called, asker), [frame([]), frame([], (0, 0))]
        self.deep(house, some, [], ("right", 1))
        self.deep(house, some, [1, 0, 0, 0], ("right", 3))
        self.deep(house, some, [1, 1, 0, 0], ("right", 4))
        self.deep(house, some, [1, 0, 1, 0], ("right", 4))
        self.deep(house, some, [1, 1, 1, 1, 1, 1, 0], ("right", 9))
        self.deep(house, some, [1, 1, 1, 0, 1, 1], ("right", 5))
        self.deep(house, some, [1, 1], ("right", 4))

    def test_choices_that_lead_to_what_is_wrong(self):
        called = (FOUR, (("either", (), (WRITE_A,)),))
        asker = (FOUR, (WRITE_A, ("round", (CALL,)), READ_A))
        house, some = (called, asker), [AT_0, frame([0], (1, 0))]
        self.deep(house, some, [], ("right", 2))
        self.deep(house, some, [1, 0, 1, 0, 0], ("right", 4))
        self.deep(house, some, [1, 0, 1, 1, 0], ("wrong", 5, 0, 0))

    def test_rounds_gone_often(self):
        called = (FOUR, (WRITE_A, ("either", (READ_A,), ())))
        asker = (FOUR, (WRITE_A, ("round", (("call", 0, (0,), None),)), READ_A))
        house = (called, asker)
        self.deep(house, [AT_0, frame([0], (1, 4))], [1, 0] * 100, ("right", 2 + 300))
        self.deep(house, [AT_0, frame([0], (1, 4))], [1] * 200, ("right", 2 + 200))
        self.deep(house, [AT_0, frame([0], (1, 4))], [1] * 199 + [0], ("right", 203))
        self.deep(house, [AT_0, frame([0], (1, 3))], [1] * 200, ("wrong", 4, 0, 0))
        plain = (FOUR, (WRITE_A, ("round", (CALL,)), READ_A))
        self.deep((INNER, plain), [AT_0, frame([0], (1, 4))], [1] * 200, ("right", 602))
        self.deep((INNER, plain), [AT_0, frame([0], (1, 0))], [1] * 200, ("wrong", 602, 0, 0))
        self.deep((INNER, plain), [AT_0, frame([0], (1, 4))], [1] * 1000, ("right", 3002))

    def test_rounds_without_rows(self):
        self.deep((((), (("round", ()),)),), [frame([])], [1] * 200, ("right", 0))

    def test_heights_and_borders_are_not_looked_at(self):
        for odd in (0, 1, -7, 10 ** 20):
            house = (INNER, (FOUR, (WRITE_A, CALL, READ_A)))
            self.assertEqual(deep(house, [(odd, odd, [0], []), (odd, odd, [0], [(1, 4)])], []), ("right", 5))
            self.assertEqual(deep(house, [(odd, odd, [1], []), (odd, odd, [0], [(1, 2)])], []), ("wrong", 5, 0, 0))

    def test_places_beside_borders(self):
        house = ((((4, 4),), (WRITE_A, READ_A)), (((4, 4),), (WRITE_A, CALL, READ_A)))
        self.assertEqual(deep(house, [frame([1]), frame([2], (1, 5))], []), ("right", 5))
        self.assertEqual(deep(house, [frame([1]), frame([2], (1, 4))], []), ("wrong", 5, 0, 0))

    def test_great_ones(self):
        house = ((((GREAT, 1),), (WRITE_A, READ_A)), (((GREAT, 1),), (WRITE_A, CALL, READ_A)))
        self.assertEqual(deep(house, [frame([0]), frame([0], (1, GREAT))], []), ("right", 5))
        self.assertEqual(deep(house, [frame([0]), frame([0], (1, GREAT - 1))], []), ("wrong", 5, 0, 0))
        self.assertEqual(deep(house, [frame([10 ** 40]), frame([10 ** 40 + 1], (1, 2))], []), ("wrong", 5, 0, 0))
        self.assertEqual(deep(house, [frame([10 ** 40]), frame([10 ** 40 + 1], (1, GREAT + 1))], []), ("right", 5))

    def test_one_function_alone_is_as_marked(self):
        for seed, program in enumerate(made_programs(200, most_runs=60) + list(SAMPLES)):
            dice = Dice(seed + 1)
            for count in range(6):
                places = [border * dice.below(4) for size, border in program[0]]
                choices = [dice.below(2) for at in range(8)]
                told = marked(program, places, choices)
                answer = deep((program,), [frame(places)], choices)
                if told[0] == "right":
                    self.assertEqual(answer, ("right", len(told[1])))
                else:
                    self.assertEqual(answer, ("wrong", told[1], 0, told[2]))

    def test_by_marks_in_cells(self):
        right = wrong = 0
        depths = set()
        for seed, house in enumerate(made_houses(500, 4, 7)):
            dice = Dice(seed + 1)
            for count in range(8):
                some = [self.drawn_frame(function, dice) for function in house]
                choices = [dice.below(2) for at in range(dice.below(12))]
                told = slow_deep(house, some, choices)
                self.assertEqual(deep(house, some, choices), told, (house, some, choices))
                right += told[0] == "right"
                wrong += told[0] == "wrong"
                depths |= set(told[2:3])
        self.assertGreater(right, 500)
        self.assertGreater(wrong, 500)
        self.assertEqual(depths, {0, 1, 2, 3})

    def drawn_frame(self, function, dice):
        places = [dice.below(12) for thing in function[0]]
        return frame(places, *[(row, dice.below(12)) for row, f in calls_in(function)])

    def test_told_frames_are_right_with_all_short_choices(self):
        for house in made_houses(80, 4, 4):
            for word in WORDS:
                some = frames(house, word)
                for many in range(7):
                    for choices in itertools.product((0, 1), repeat=many):
                        self.assertEqual(deep(house, some, list(choices))[0], "right", (house, word, choices))

    def test_told_frames_are_right_with_long_choices(self):
        for seed, house in enumerate(made_houses(150, 6, 5)):
            dice = Dice(seed + 7)
            for word in WORDS:
                some = frames(house, word)
                choices = [1 if dice.below(3) else 0 for at in range(60)]
                told = deep(house, some, choices)
                self.assertEqual(told[0], "right", (house, word, choices))
                self.assertEqual(told, slow_deep(house, some, choices))

    def test_what_stays_is_enough_but_not_too_much(self):
        """Rooms put one border lower than told are wrong on some run, where what stays is needed for it."""
        house = (INNER, (FOUR, (WRITE_A, CALL, READ_A)))
        some = frames(house, "told")
        self.assertEqual(deep(house, some, []), ("right", 5))
        lower = [some[0], (*some[1][:3], [(1, some[1][3][0][1] - 1)])]
        self.assertEqual(deep(house, lower, []), ("wrong", 5, 0, 0))

    def test_what_is_handed_in_stays_and_is_not_kept(self):
        for house in made_houses(80):
            some = frames(house, "great")
            choices = [1, 0, 1, 1, 0]
            before = copy.deepcopy((house, some, choices))
            told = deep(house, some, choices)
            self.assertEqual((house, some, choices), before)
            other = [frame([0 for thing in function[0]], *[(row, 0) for row, f in calls_in(function)])
                     for function in house]
            deep(house, other, [1, 1, 1])
            for part in some:
                part[2].clear()
            some.clear()
            choices.clear()
            self.assertEqual(deep(house, before[1], before[2]), told)

    def test_two_houses_in_turns(self):
        houses = made_houses(30)
        ahead = [deep(house, frames(house, "long"), [1, 1, 0]) for house in houses]
        back = [deep(house, frames(house, "long"), [1, 1, 0]) for house in reversed(houses)]
        self.assertEqual(ahead, list(reversed(back)))
        self.assertEqual(deep((LOOPED,), [frame([0, 8])], [1, 0]), ("right", 5))


if __name__ == "__main__":
    unittest.main()
