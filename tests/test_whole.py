"""What is promised over the whole program [1] [2] [3]: each of its functions, one beside the other."""

import copy
import itertools
import unittest

from frameshare.bounds import best_stack, bound, crowd_bound, loads, stack
from frameshare.deep import deep
from frameshare.desk import run_desk
from frameshare.errors import FrameError
from frameshare.floors import Floor
from frameshare.flows import first_rows, given_behind, is_program, last_rows, next_rows, rows_of, written_ahead
from frameshare.frames import apart, frames
from frameshare.houses import is_house, stays
from frameshare.least import is_least, least
from frameshare.lives import alive_behind, busy_behind, clashes, in_one_stretch, stretch_of
from frameshare.moving import moves, shows_moves
from frameshare.papercheck import shows_none
from frameshare.papers import paper_of
from frameshare.placings import first_over, is_placing
from frameshare.rules import order_by, placed, placed_by, roofs
from frameshare.runner import marked, shows_wrong_run, wrong_run
from frameshare.texts import program_text, read_program
from frameshare.things import common_border, end_of, height, is_thing, lie_over, rounded
from frameshare.ways import is_way, way_of
from tests.samples import SAMPLES, Dice, Maker, made_houses, made_programs
from tests.slow_moves import drawn_moving
from tests.test_desk import desk_text

WORDS = ("told", "great", "long", "early")
GREAT = 10 ** 10 - 1
CHOICES = ([], [1], [1, 1, 0, 1], [0, 1] * 20)


def parts_in(told):
    """All lists and dicts of an answer, at any depth, itself among them."""
    inner = told.values() if isinstance(told, dict) else told if isinstance(told, (list, tuple)) else ()
    here = [told] if isinstance(told, (list, dict)) else []
    return here + [part for some in inner for part in parts_in(some)]


def spoil(told):
    """Change all lists and dicts of an answer, each once."""
    for part in {id(part): part for part in parts_in(told)}.values():
        if isinstance(part, dict):
            part.clear()
            part[77] = 78
        else:
            part.append(77)
            part.insert(0, (78, 79))
            part.reverse()


def asks_of_function(program):
    """Asks of stages 2 to 5, each a function and what is handed in."""
    asks = [(tell, (program,)) for tell in (
        rows_of, first_rows, last_rows, next_rows, written_ahead, given_behind, alive_behind, busy_behind, clashes,
        in_one_stretch, loads, bound)]
    asks += [(tell, (program, word)) for tell in (order_by, placed_by) for word in WORDS]
    asks += [(way_of, (program, list(choices))) for choices in CHOICES]
    asks += [(is_way, (program, way_of(program, choices))) for choices in CHOICES]
    asks += [(stretch_of, (program, t)) for t in range(len(program[0]))]
    return asks


def asks_of_placings(things, pairs, places):
    order = list(reversed(range(len(things))))
    asks = [(tell, (things, pairs, order)) for tell in (placed, roofs)]
    asks += [(tell, (things, pairs, places)) for tell in (is_placing, first_over)]
    asks += [(height, (things, places)), (common_border, (things,)), (stack, (things, order))]
    asks += [(is_thing, (thing,)) for thing in things] + [(end_of, (thing, 5)) for thing in things]
    asks += [(rounded, (17, border)) for size, border in things]
    asks += [(lie_over, (one, 3, other, 7)) for one in things for other in things]
    return asks


def asks_of_few(things, pairs, places):
    """Asks of at most six things, for which a tree isn't too great."""
    top, least_places = least(things, pairs)
    return [
        (best_stack, (things,)), (least, (things, pairs)), (is_least, (things, pairs, places)),
        (is_least, (things, pairs, least_places)), (paper_of, (things, pairs)),
        (shows_none, (things, pairs, top - 1, paper_of(things, pairs))),
    ]


def asks_of_program(program, few=True):
    """Asks of all stages but houses and floors."""
    things, pairs = program[0], clashes(program)
    asks = asks_of_function(program) + [(is_program, (program,)), (program_text, (program,))]
    asks += [(read_program, (program_text(program),))]
    for word in WORDS:
        places = placed_by(program, word)
        asks += asks_of_placings(things, pairs, places)
        for some in (places, [0 for thing in things]):
            asks += [(marked, (program, some, list(choices))) for choices in CHOICES]
            asks += [(wrong_run, (program, some)), (shows_wrong_run, (program, some, [1, 0]))]
    if few and len(things) <= 6:
        asks += asks_of_few(things, pairs, placed_by(program, "told")) + [(crowd_bound, (program,))]
    return asks + [(run_desk, (text_with_asks(program),))]


def text_with_asks(program):
    asks = ["clashes", "bound", "least", "way 1 0 1", " ".join(["check"] + ["0" for thing in program[0]])]
    asks += [f"busy {row}" for row in range(len(rows_of(program)))]
    return desk_text(program, asks + [f"{what} {word}" for what in ("place", "height") for word in WORDS])


def asks_of_house(house):
    asks = [(is_house, (house,))]
    asks += [(stays, (house, g)) for g in range(len(house))]
    asks += [(tell, (house, word)) for tell in (frames, apart) for word in WORDS]
    asks += [(deep, (house, frames(house, word), list(choices))) for word in WORDS for choices in CHOICES]
    return asks + [ask for function in house for ask in asks_of_function(function)]


def asks_of_moving(seed):
    things, olds, news = drawn_moving(Dice(seed), 6, seed % 2 == 0)
    return [(moves, (things, olds, news)), (shows_moves, (things, olds, news, moves(things, olds, news)))]


def floor_tells(seed):
    """What a floor tells at each of some deeds, and what it tells of itself behind it."""
    dice, floor, told = Dice(seed), Floor(), []
    for count in range(30):
        what, number = dice.below(7), dice.below(8)
        deeds = (lambda: floor.leave(number), lambda: floor.give(number), lambda: floor.back(number), floor.regrow)
        try:
            told.append(floor.come(1 + number, 1 + dice.below(4)) if what < 3 else deeds[what - 3]())
        except FrameError as refusal:
            told.append(type(refusal).__name__)
        told += [floor.places(), floor.given(), floor.height(), floor.twin().places(), floor.twin().given()]
    return told


def all_groups():
    """Asks in groups, each of one program, house, floor or pair of placings."""
    groups = [asks_of_program(program) for program in SAMPLES + tuple(made_programs(25))]
    groups += [asks_of_house(house) for house in made_houses(25)]
    groups += [asks_of_moving(seed) for seed in range(1, 15)]
    return groups + [[(floor_tells, (seed,))] for seed in range(1, 15)]


def answers(group):
    return [tell(*asked) for tell, asked in group]


def all_kinds(told):
    """The kinds of all that an answer holds, at any depth."""
    inner = told.values() if isinstance(told, dict) else told if isinstance(told, (list, tuple)) else ()
    return {type(told)}.union(*[all_kinds(part) for part in inner])


class WholeTest(unittest.TestCase):
    def test_one_then_another_then_the_first_again(self):
        groups = all_groups()
        for first, second in zip(groups, groups[1:] + groups[:1]):
            before = copy.deepcopy(answers(first))
            answers(second)
            self.assertEqual(answers(first), before)

    def test_asked_in_turns(self):
        groups = all_groups()
        for first, second in zip(groups, reversed(groups)):
            before = [answers(first), answers(second)]
            both = [[], []]
            for asks in itertools.zip_longest(first, second):
                for at, ask in enumerate(asks):
                    if ask is not None:
                        both[at].append(ask[0](*ask[1]))
            self.assertEqual(both, before)

    def test_asked_the_other_way_round(self):
        for group in all_groups():
            before = answers(group)
            self.assertEqual(list(reversed(answers(list(reversed(group))))), before)

    def test_told_ones_that_are_changed_change_no_later_answer(self):
        for group in all_groups():
            before = copy.deepcopy(answers(group))
            for told in answers(group):
                spoil(told)
            self.assertEqual(answers(group), before)
            for tell, asked in group:
                told = tell(*asked)
                same = copy.deepcopy(told)
                spoil(told)
                self.assertEqual(tell(*asked), same, tell)

    def test_no_list_or_dict_is_told_twice_or_handed_in(self):
        for group in all_groups():
            told = [answers(group), answers(group)]
            parts = [part for some in told for answer in some for part in parts_in(answer)]
            handed_in = {id(part) for tell, asked in group for part in parts_in(asked)}
            self.assertEqual(len({id(part) for part in parts}), len(parts))
            self.assertFalse(handed_in & {id(part) for part in parts})

    def test_what_is_handed_in_stays(self):
        for group in all_groups():
            before = copy.deepcopy([asked for tell, asked in group])
            for told in answers(group):
                spoil(told)
            self.assertEqual([asked for tell, asked in group], before)

    def test_what_is_handed_in_is_not_kept(self):
        for group in all_groups():
            before = answers(group)
            kept = copy.deepcopy(before)
            copies = copy.deepcopy(group)
            self.assertEqual(answers(copies), kept)
            later = answers(copies)
            spoil([asked for tell, asked in copies])
            self.assertEqual(later, kept)
            self.assertEqual(answers(group), kept)

    def test_told_ones_are_of_plain_kinds(self):
        for group in all_groups():
            for told in answers(group):
                self.assertLessEqual(all_kinds(told), {list, dict, tuple, int, str, bool, type(None)})


def great_program(seed, calls=0, most_rows=100):
    """A program of twenty things with sizes and borders to the greatest, items five deep, and at most so many rows."""
    dice = Dice(seed)
    things = [(1 + dice.below(GREAT), 1 + dice.below(GREAT)) for t in range(18)] + [(GREAT, 1), (GREAT, GREAT)]
    maker = Maker(dice, 20, calls)
    items = tuple(("row", (), t) for t in range(20))
    maker.written = set(range(20))
    everything = ("row", tuple(range(20)), None)
    deepest = maker.side(0, set(range(20))) + (everything,)
    for count in range(5):
        inner = maker.side(1, set(range(20)))
        deepest = (("either", deepest, inner),) if count % 2 else (("round", deepest + inner),)
    items += deepest + (everything,)
    while len(rows_of((tuple(things), items))) < most_rows:
        maker.written = set(range(20))
        more = maker.items(1, 0)
        items += more
    items += tuple(("back", t) for t in sorted(maker.given)) if most_rows < 100 else ()
    return tuple(things), items


class GreatTest(unittest.TestCase):
    def test_programs(self):
        for seed in (1, 2, 3, 4):
            program = great_program(seed)
            self.assertIs(is_program(program), True)
            self.assertEqual(len(rows_of(program)), 100)
            asks = asks_of_program(program, False)
            self.assertEqual(answers(asks), answers(asks))
            self.assertEqual(read_program(program_text(program)), program)

    def test_great_placings_are_right_and_lower_ones_wrong(self):
        for seed in (1, 2):
            program = great_program(seed)
            self.assertEqual(len(clashes(program)), 190)
            for word in WORDS:
                places = placed_by(program, word)
                self.assertIs(is_placing(program[0], clashes(program), places), True)
                self.assertIsNone(wrong_run(program, places))
                self.assertGreaterEqual(height(program[0], places), bound(program)[0])
                for place, roof in zip(places, roofs(program[0], clashes(program), order_by(program, word))):
                    self.assertLessEqual(place, roof)
            places = [0 for thing in program[0]]
            choices = wrong_run(program, places)
            self.assertIs(shows_wrong_run(program, places, choices), True)
            self.assertEqual(run_desk(desk_text(program, ["check" + " 0" * 20])),
                             [" ".join(["wrong"] + [str(choice) for choice in choices])])

    def test_great_places_are_handed_in_again(self):
        program = great_program(3)
        for word in WORDS:
            places = placed_by(program, word)
            self.assertGreater(max(places), GREAT)
            self.assertIsNone(wrong_run(program, places))
            self.assertEqual(marked(program, places, [1, 0, 1])[0], "right")
            self.assertIs(is_placing(program[0], clashes(program), places), True)

    def test_houses(self):
        house = tuple(great_program(seed + 1, seed, 60) for seed in range(6))
        self.assertIs(is_house(house), True)
        asks = [ask for ask in asks_of_house(house) if ask[0] is not deep]
        self.assertEqual(answers(asks), answers(asks))
        for word in ("told", "great"):
            some = frames(house, word)
            for frame, top in zip(some, apart(house, word)):
                self.assertLessEqual(frame[0], top)
            self.assertEqual(deep(house[:3], some[:3], [1, 0, 1, 1, 0])[0], "right")

    def test_a_floor(self):
        floor, dice = Floor(), Dice(9)
        for count in range(40):
            floor.come(1 + dice.below(GREAT), 1 + dice.below(GREAT))
        for t in range(0, 40, 2):
            floor.leave(t)
        before, top = floor.places(), floor.height()
        told = floor.regrow()
        self.assertTrue(told)
        self.assertLess(floor.height(), top)
        for t, place in told:
            before[t] = place
        self.assertEqual(floor.places(), before)


if __name__ == "__main__":
    unittest.main()
