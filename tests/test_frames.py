import copy
import unittest

from frameshare.errors import BadWord
from frameshare.frames import apart, frames
from frameshare.houses import is_house, stays
from frameshare.rules import placed_by
from frameshare.things import height, lie_over
from tests.samples import (
    EMPTY, LINE, LOOPED, QUIET, READ_A, READ_B, READ_C, SAMPLES, WRITE_A, WRITE_B, WRITE_C, Dice, made_houses,
)
from tests.slow_house import slow_apart, slow_frames

WORDS = ("told", "great", "long", "early")
GREAT = 10 ** 10 - 1
CALL = ("call", 0, (), None)


def one(size, border):
    """A function of one thing."""
    return ((size, border),), (WRITE_A, READ_A)


def deep_items(items, deep):
    """The items within rounds so deep."""
    for count in range(deep):
        items = (("round", items),)
    return items


class FramesTest(unittest.TestCase):
    def frames(self, house, told, word="told"):
        self.assertIs(is_house(house), True, house)
        self.assertEqual(frames(house, word), told)

    def test_without_things(self):
        self.frames((EMPTY,), [(0, 1, [], [])])
        self.frames((((), (QUIET,)), EMPTY), [(0, 1, [], []), (0, 1, [], [])])

    def test_without_calls(self):
        self.frames((one(6, 4),), [(6, 4, [0], [])])
        self.frames((((((4, 4), (6, 6)), (WRITE_A, WRITE_B, ("row", (0, 1), None)))),), [(12, 12, [0, 6], [])])
        for program in SAMPLES:
            for word in WORDS:
                told = frames((program,), word)
                places = placed_by(program, word)
                self.assertEqual(told[0][0], height(program[0], places))
                self.assertEqual(told[0][2:], (places, []))

    def test_a_called_one_without_height(self):
        self.frames((EMPTY, ((), (CALL,))), [(0, 1, [], []), (0, 1, [], [(0, 0)])])
        # Whatever stays, a room without height is at 0.
        asker = (((4, 4),), (WRITE_A, CALL, READ_A))
        self.frames((EMPTY, asker), [(0, 1, [], []), (4, 4, [0], [(1, 0)])])

    def test_calls_alone(self):
        self.frames((one(6, 4), ((), (CALL, CALL))), [(6, 4, [0], []), (6, 4, [], [(0, 0), (1, 0)])])

    def test_behind_what_stays(self):
        asker = (((3, 1),), (WRITE_A, CALL, READ_A))
        self.frames((one(6, 4), asker), [(6, 4, [0], []), (10, 4, [0], [(1, 4)])])
        asker = (((3, 1),), (WRITE_A, ("call", 0, (0,), None)))
        self.frames((one(6, 4), asker), [(6, 4, [0], []), (10, 4, [0], [(1, 4)])])

    def test_over_what_does_not_stay(self):
        asker = (((3, 1),), (WRITE_A, READ_A, CALL))
        self.frames((one(6, 4), asker), [(6, 4, [0], []), (6, 4, [0], [(2, 0)])])
        asker = (((3, 1),), (("call", 0, (), 0), READ_A))
        self.frames((one(6, 4), asker), [(6, 4, [0], []), (6, 4, [0], [(0, 0)])])

    def test_into_a_gap(self):
        # By told places A lies at 0, B at 8 and C at 16; as B is over, the room fits between A and C.
        things = ((8, 8), (8, 8), (8, 8))
        items = (WRITE_A, WRITE_B, WRITE_C, READ_B, CALL, ("row", (0, 2), None))
        self.frames((one(6, 4), (things, items)), [(6, 4, [0], []), (24, 8, [0, 8, 16], [(4, 8)])])
        self.frames((one(8, 8), (things, items)), [(8, 8, [0], []), (24, 8, [0, 8, 16], [(4, 8)])])
        self.frames((one(9, 8), (things, items)), [(9, 8, [0], []), (33, 8, [0, 8, 16], [(4, 24)])])
        self.frames((one(6, 16), (things, items)), [(6, 16, [0], []), (38, 16, [0, 8, 16], [(4, 32)])])

    def test_into_a_gap_at_the_begin(self):
        things = ((8, 8), (8, 8))
        items = (WRITE_A, WRITE_B, READ_A, CALL, READ_B)
        self.frames((one(8, 1), (things, items)), [(8, 1, [0], []), (16, 8, [0, 8], [(3, 0)])])
        self.frames((one(9, 1), (things, items)), [(9, 1, [0], []), (25, 8, [0, 8], [(3, 16)])])

    def test_each_call_has_its_own_room(self):
        things = ((4, 1), (2, 1))
        items = (CALL, WRITE_A, CALL, WRITE_B, CALL, ("row", (0, 1), None), ("either", (CALL,), (("round", (CALL,)),)))
        self.frames((one(3, 1), (things, items)),
                    [(3, 1, [0], []), (9, 1, [0, 4], [(0, 0), (2, 4), (4, 6), (6, 0), (7, 0)])])

    def test_a_room_lies_by_its_border_alone(self):
        # The asker's border 6 doesn't count for the room, that of the called one does.
        asker = (((7, 6),), (WRITE_A, CALL, READ_A))
        self.frames((one(4, 4), asker), [(4, 4, [0], []), (12, 12, [0], [(1, 8)])])

    def test_borders(self):
        house = (one(1, 6), (((1, 4),), (CALL,)), ((), (("call", 1, (), None),)), ((), (QUIET,)),
                 (((1, 10),), (("call", 3, (), None), ("call", 0, (), None))))
        told = frames(house, "told")
        self.assertEqual([frame[1] for frame in told], [6, 12, 12, 1, 30])

    def test_calls_of_calls(self):
        house = (
            one(3, 1),
            (((2, 2),), (WRITE_A, CALL, READ_A)),
            (((1, 1), (5, 4)), (WRITE_A, ("call", 1, (0,), 1), ("call", 0, (1,), None))),
        )
        told = [(3, 1, [0], []), (5, 2, [0], [(1, 2)]), (8, 4, [0, 0], [(1, 2), (2, 5)])]
        self.frames(house, told)

    def test_six_functions(self):
        house = [one(4, 4)]
        for g in range(1, 6):
            house.append((((g, 1),), (WRITE_A, ("call", g - 1, (), None), READ_A)))
        told = [(4, 4, [0], []), (8, 4, [0], [(1, 4)]), (12, 4, [0], [(1, 4)]), (16, 4, [0], [(1, 4)]),
                (20, 4, [0], [(1, 4)]), (28, 4, [0], [(1, 8)])]
        self.frames(tuple(house), told)
        self.assertEqual(apart(tuple(house), "told"), [4, 8, 12, 16, 20, 28])

    def test_places_by_the_word(self):
        asker = (((2, 1), (6, 1)), (WRITE_A, WRITE_B, ("call", 0, (1,), None), READ_A))
        house = (one(4, 4), asker)
        self.frames(house, [(4, 4, [0], []), (12, 4, [0, 2], [(2, 8)])], "told")
        self.frames(house, [(4, 4, [0], []), (12, 4, [6, 0], [(2, 8)])], "great")

    def test_great_ones(self):
        asker = (((GREAT, 1),), (WRITE_A, CALL, READ_A))
        self.frames((one(GREAT, GREAT), asker), [(GREAT, GREAT, [0], []), (2 * GREAT, GREAT, [0], [(1, GREAT)])])
        asker = (((GREAT - 1, GREAT - 1),), (WRITE_A, CALL, READ_A))
        border = GREAT * (GREAT - 1)
        self.frames((one(GREAT, GREAT), asker), [(GREAT, GREAT, [0], []), (2 * GREAT, border, [0], [(1, GREAT)])])

    def test_borders_may_get_very_great(self):
        primes = (9999999967, 9999999943, 9999999929, 9999999881, 9999999851, 9999999833)
        house = (one(1, primes[0]),)
        border = primes[0]
        for prime in primes[1:]:
            house += ((((1, prime),), (WRITE_A, ("call", len(house) - 1, (), None), READ_A)),)
        told = frames(house, "early")
        for g, prime in enumerate(primes[1:], start=1):
            # The room of the whole frame below begins at the first place above 0 that its border divides.
            self.assertEqual(told[g][3], [(1, border)])
            self.assertEqual(told[g][0], border + told[g - 1][0])
            border *= prime
            self.assertEqual(told[g][1], border)

    def test_many_rows_things_and_depth(self):
        dice = Dice(5)
        things = tuple((1 + dice.below(GREAT), 1 + dice.below(9)) for t in range(20))
        house = ()
        for g in range(6):
            items = tuple(("row", (), t) for t in range(20))
            calls = tuple(("call", dice.below(g), (t,), 19 - t) if g else ("row", (t,), 19 - t) for t in range(20))
            items += deep_items(calls, 5) + tuple(("row", tuple(range(20)), None) for count in range(60))
            house += ((things, items),)
        self.assertIs(is_house(house), True)
        for word in WORDS:
            told = frames(house, word)
            self.assertEqual([len(frame[3]) for frame in told], [0, 20, 20, 20, 20, 20])
            self.check_rooms(house, told)

    def check_rooms(self, house, told):
        """No room lies over what stays, and each at a place that its border divides, within the frame."""
        for g, (top, border, places, rooms) in enumerate(told):
            things = house[g][0]
            for (row, place), (same, some) in zip(rooms, stays(house, g)):
                self.assertEqual(row, same)
                room = told[self.row_at(house[g], row)[1]][:2]
                self.assertEqual(place % room[1], 0)
                self.assertEqual(border % room[1], 0)
                self.assertLessEqual(place + room[0], top)
                for t in some:
                    self.assertFalse(lie_over(room, place, things[t], places[t]))

    def row_at(self, function, row):
        def rows(items):
            for item in items:
                if item[0] in ("either", "round"):
                    for side in item[1:]:
                        yield from rows(side)
                else:
                    yield item
        return list(rows(function[1]))[row]

    def test_by_trying_places(self):
        gaps = rooms = 0
        for house in made_houses(250, 5, 5):
            for word in WORDS:
                told = frames(house, word)
                self.assertEqual(told, slow_frames(house, word), (house, word))
                self.check_rooms(house, told)
                for function, frame in zip(house, told):
                    own = height(function[0], frame[2])
                    rooms += len(frame[3])
                    gaps += sum(0 < place < own for row, place in frame[3])
        self.assertGreater(rooms, 500)
        self.assertGreater(gaps, 100)

    def test_kinds(self):
        for house in made_houses(60):
            told = frames(house, "great")
            self.assertIs(type(told), list)
            for frame in told:
                self.assertIs(type(frame), tuple)
                self.assertEqual([type(part) for part in frame], [int, int, list, list])
                self.assertEqual({type(pair) for pair in frame[3]} - {tuple}, set())

    def test_told_lists_are_the_askers_own(self):
        for house in made_houses(60):
            before = copy.deepcopy(house)
            for word in WORDS:
                told, again = frames(house, word), frames(house, word)
                same = copy.deepcopy(told)
                lists = [part for some in (told, again) for frame in some for part in frame[2:]] + [told, again]
                self.assertEqual(len({id(part) for part in lists}), len(lists))
                for frame in told:
                    frame[2].append(77)
                    frame[3].insert(0, (0, 78))
                told.clear()
                self.assertEqual(again, same)
                self.assertEqual(frames(house, word), same)
                heights = apart(house, word)
                kept = list(heights)
                heights.append(77)
                self.assertEqual(apart(house, word), kept)
            self.assertEqual(house, before)


class ApartTest(unittest.TestCase):
    def test_without_calls(self):
        self.assertEqual(apart((EMPTY,), "told"), [0])
        self.assertEqual(apart((one(6, 4), LINE, LOOPED), "told"),
                         [6] + [height(p[0], placed_by(p, "told")) for p in (LINE, LOOPED)])

    def test_from_the_height_of_the_own_places_on(self):
        # Nothing stays, but the room lies behind all things.
        self.assertEqual(apart((one(6, 4), (((3, 1),), (WRITE_A, READ_A, CALL))), "told"), [6, 10])
        self.assertEqual(apart((one(6, 4), (((4, 1),), (WRITE_A, READ_A, CALL))), "told"), [6, 10])
        self.assertEqual(apart((one(6, 4), (((5, 1),), (WRITE_A, READ_A, CALL, CALL))), "told"), [6, 14])

    def test_a_called_one_without_height(self):
        self.assertEqual(apart((EMPTY, (((3, 1),), (WRITE_A, CALL, READ_A))), "told"), [0, 3])
        self.assertEqual(apart((EMPTY, ((), (CALL,))), "told"), [0, 0])

    def test_calls_alone(self):
        self.assertEqual(apart((one(6, 4), ((), (CALL, CALL))), "told"), [6, 6])

    def test_the_heights_told_here_count(self):
        house = (
            one(3, 1),
            (((4, 2),), (CALL, WRITE_A, READ_A)),
            (((1, 1),), (WRITE_A, ("call", 1, (), None), CALL)),
        )
        self.assertEqual([frame[0] for frame in frames(house, "told")], [3, 4, 4])
        # The second is 4 and 3 high; in the third it begins at 2 and ends at 9.
        self.assertEqual(apart(house, "told"), [3, 7, 9])

    def test_by_the_word(self):
        asker = (((3, 1), (8, 8)), (WRITE_A, WRITE_B, ("row", (0, 1), None), CALL))
        house = (one(4, 4), asker)
        self.assertEqual(apart(house, "told"), [4, 20])
        self.assertEqual(apart(house, "great"), [4, 16])

    def test_no_frame_is_higher(self):
        higher = 0
        for house in made_houses(250, 5, 5):
            for word in WORDS:
                heights = apart(house, word)
                self.assertEqual(heights, slow_apart(house, word), (house, word))
                for frame, top in zip(frames(house, word), heights):
                    self.assertLessEqual(frame[0], top, house)
                    higher += frame[0] < top
        self.assertGreater(higher, 100)


class BadWordTest(unittest.TestCase):
    def test_other_words(self):
        for word in ("Great", "", " told", "tol", "told ", "TOLD", "late", "0", "-", "told great"):
            for house in ((EMPTY,), (LINE,), (one(6, 4), ((), (CALL,)))):
                for tell in (frames, apart):
                    with self.assertRaises(BadWord) as caught:
                        tell(house, word)
                    self.assertIs(type(caught.exception), BadWord)


if __name__ == "__main__":
    unittest.main()
