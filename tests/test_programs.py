import copy
import itertools
import unittest

from frameshare.flows import is_program
from tests import oracle
from tests.samples import (
    CALLING, FORKED, HANDED, LINE, LOOPED, QUIET, READ_A, READ_B, SAMPLES, WRITE_A, WRITE_B, made_programs, spread,
)
from tests.wrongs import nested, other_values

PAIR = ((4, 4), (8, 8))
GIVE_A, BACK_A, GIVE_B, BACK_B = ("give", 0), ("back", 0), ("give", 1), ("back", 1)


def sequences(tokens, most):
    return [told for many in range(most + 1) for told in itertools.product(tokens, repeat=many)]


class IsProgramTest(unittest.TestCase):
    def right(self, *items):
        self.assertIs(is_program((PAIR, items)), True, items)

    def wrong(self, *items):
        self.assertIs(is_program((PAIR, items)), False, items)


class RightTest(IsProgramTest):
    def test_samples(self):
        for program in SAMPLES:
            self.assertIs(is_program(program), True, program)

    def test_without_things_and_items(self):
        self.assertIs(is_program(((), ())), True)
        self.assertIs(is_program((PAIR, ())), True)
        self.assertIs(is_program(((), (QUIET, ("round", (QUIET,))))), True)

    def test_rows(self):
        self.right(QUIET)
        self.right(WRITE_A, READ_A)
        self.right(WRITE_A, WRITE_A)
        self.right(WRITE_A, ("row", (0,), 0))
        self.right(WRITE_A, WRITE_B, ("row", (0, 1), None), ("row", (1, 0), 1))

    def test_items_without_rows(self):
        self.right(("round", ()))
        self.right(("either", (), ()))
        self.right(("round", (("round", ()), ("either", (), (("round", ()),)))), WRITE_A, ("either", (), ()), READ_A)

    def test_written_on_both_sides(self):
        self.right(("either", (WRITE_A,), (WRITE_B, WRITE_A)), READ_A)
        self.right(("either", (WRITE_A,), (("either", (WRITE_A,), (QUIET, WRITE_A)),)), READ_A, GIVE_A)

    def test_written_ahead_of_an_either_or_a_round(self):
        self.right(WRITE_A, ("either", (READ_A,), (GIVE_A, BACK_A)), READ_A)
        self.right(WRITE_A, ("round", (READ_A, WRITE_B, READ_B)), READ_A)
        self.right(WRITE_A, ("round", ()), READ_A)
        self.right(WRITE_A, ("either", (), ()), READ_A)

    def test_handing_out(self):
        self.right(WRITE_A, GIVE_A)
        self.right(WRITE_A, GIVE_A, BACK_A)
        self.right(WRITE_A, GIVE_A, BACK_A, GIVE_A, BACK_A, GIVE_A)
        self.right(WRITE_A, GIVE_A, WRITE_A, READ_A, ("row", (0,), 0), BACK_A)
        self.right(WRITE_A, WRITE_B, GIVE_B, GIVE_A, BACK_B, BACK_A)

    def test_handed_out_within_a_side_as_ahead(self):
        self.right(WRITE_A, ("either", (GIVE_A, BACK_A), ()))
        self.right(WRITE_A, ("either", (), (GIVE_A, BACK_A)), GIVE_A)
        self.right(WRITE_A, GIVE_A, ("either", (BACK_A, GIVE_A), (READ_A,)), BACK_A)
        self.right(WRITE_A, GIVE_A, ("round", (BACK_A, READ_A, GIVE_A)), BACK_A)
        self.right(WRITE_A, WRITE_B, GIVE_A, GIVE_B, ("round", (BACK_A, BACK_B, GIVE_B, GIVE_A)))
        self.right(WRITE_A, WRITE_B, GIVE_B, GIVE_A, ("either", (BACK_B, GIVE_B), (BACK_A, GIVE_A)), BACK_B)

    def test_many_things(self):
        for many in (21, 64, 65, 80, 300):
            things = tuple((1 + t, 1) for t in range(many))
            writes = tuple(("row", (), t) for t in range(many))
            gives = tuple(("give", t) for t in range(many))
            backs = tuple(("back", t) for t in range(many))
            reads = ("row", tuple(range(many)), many - 1)
            self.assertIs(is_program((things, writes + (reads,) + gives + backs + gives)), True)
            self.assertIs(is_program((things, writes[:-1] + (reads,))), False)
            self.assertIs(is_program((things, writes + gives + gives[-1:])), False)
            self.assertIs(is_program((things, writes + gives[:-1] + backs)), False)
            self.assertIs(is_program((things, writes + (("row", (many,), None),))), False)

    def test_many_rows(self):
        self.right(WRITE_A, *([("row", (0,), 0)] * 3000), READ_A)
        self.wrong(WRITE_A, *([("row", (0,), 0)] * 3000), READ_B)

    def test_deep_ones(self):
        rounds = lambda inner: ("round", (inner, READ_A))
        sides = lambda inner: ("either", (WRITE_B, inner), (QUIET, WRITE_B))
        for deep in (1, 5, 16, 17, 18):
            self.right(WRITE_A, nested(rounds, deep, READ_A))
            self.right(WRITE_A, nested(rounds, deep, ("round", ())))
            self.wrong(WRITE_A, nested(rounds, deep, READ_B))
            self.wrong(WRITE_A, nested(rounds, deep, GIVE_A))
            self.right(nested(sides, deep, WRITE_A), READ_B)
            self.wrong(nested(sides, deep, READ_A), READ_B)
            self.wrong(nested(sides, deep, WRITE_A), READ_A)

    def test_sides_that_both_are_deep(self):
        both = lambda inner: ("either", (inner,), (inner, READ_A))
        self.right(WRITE_A, nested(both, 10, WRITE_B), READ_B)
        self.wrong(nested(both, 10, WRITE_B), READ_B)
        self.right(nested(lambda inner: ("either", (inner,), (inner, inner)), 6, WRITE_B), READ_B)
        self.wrong(nested(lambda inner: ("either", (inner,), (("round", (inner,)),)), 10, WRITE_B), READ_B)

    def test_great_sizes_and_borders(self):
        self.assertIs(is_program((((10 ** 30, 10 ** 30), (1, 10 ** 10 - 1)), (WRITE_B, READ_B))), True)

    def test_made_ones(self):
        for program in made_programs(300):
            self.assertIs(is_program(program), True, program)
            self.assertIs(is_program(spread(program)), True, program)


class WrongOnAWayTest(IsProgramTest):
    def test_read_or_given_and_not_written(self):
        self.wrong(READ_A)
        self.wrong(GIVE_A)
        self.wrong(READ_A, WRITE_A)
        self.wrong(WRITE_A, READ_B)
        self.wrong(WRITE_A, ("row", (0, 1), None))
        self.wrong(WRITE_A, ("row", (1, 0), 1))
        self.wrong(WRITE_B, GIVE_A)

    def test_a_row_reads_ahead_of_its_own_write(self):
        self.wrong(("row", (0,), 0))
        self.wrong(("round", (("row", (0,), 0),)))

    def test_written_on_one_side_alone(self):
        self.wrong(("either", (WRITE_A,), ()), READ_A)
        self.wrong(("either", (), (WRITE_A,)), READ_A)
        self.wrong(("either", (WRITE_A,), (WRITE_B,)), READ_A)
        self.wrong(("either", (WRITE_A,), (WRITE_B,)), READ_B)
        self.wrong(("either", (WRITE_A,), (READ_A,)))
        self.wrong(("either", (WRITE_A,), (WRITE_B,)), GIVE_A)
        self.wrong(("either", (WRITE_A,), (("either", (WRITE_A,), ()),)), READ_A)

    def test_written_in_a_round_that_may_not_be_gone(self):
        self.wrong(("round", (WRITE_A,)), READ_A)
        self.wrong(("round", (WRITE_A,)), GIVE_A)
        self.wrong(("either", (("round", (WRITE_A,)),), (WRITE_A,)), READ_A)
        self.wrong(("round", (READ_A, WRITE_A)))
        self.wrong(("round", (("round", (WRITE_A,)), READ_A)))

    def test_given_while_handed_out(self):
        self.wrong(WRITE_A, GIVE_A, GIVE_A)
        self.wrong(WRITE_A, GIVE_A, WRITE_A, GIVE_A)
        self.wrong(WRITE_A, GIVE_A, ("either", (GIVE_A,), ()))
        self.wrong(WRITE_A, GIVE_A, ("round", (GIVE_A,)))
        self.wrong(WRITE_A, GIVE_A, ("round", (GIVE_A, BACK_A)))
        self.wrong(WRITE_A, GIVE_A, ("either", (), (GIVE_A, BACK_A)))

    def test_taken_back_while_not_handed_out(self):
        self.wrong(BACK_A)
        self.wrong(WRITE_A, BACK_A)
        self.wrong(WRITE_A, GIVE_A, BACK_A, BACK_A)
        self.wrong(WRITE_A, WRITE_B, GIVE_A, BACK_B)
        self.wrong(WRITE_A, ("round", (BACK_A, GIVE_A)))
        self.wrong(WRITE_A, ("either", (BACK_A, GIVE_A), ()))

    def test_handed_out_otherwise_behind_a_side(self):
        self.wrong(WRITE_A, ("either", (GIVE_A,), ()))
        self.wrong(WRITE_A, ("either", (), (GIVE_A,)))
        self.wrong(WRITE_A, GIVE_A, ("either", (BACK_A,), ()))
        self.wrong(WRITE_A, GIVE_A, ("either", (), (BACK_A,)))
        self.wrong(WRITE_A, WRITE_B, GIVE_A, ("either", (BACK_A, GIVE_B), (BACK_A, GIVE_B)))

    def test_both_sides_alike_but_otherwise_than_ahead(self):
        self.wrong(WRITE_A, ("either", (GIVE_A,), (GIVE_A,)))
        self.wrong(WRITE_A, ("either", (GIVE_A,), (GIVE_A,)), BACK_A)
        self.wrong(WRITE_A, GIVE_A, ("either", (BACK_A,), (BACK_A,)))
        self.wrong(WRITE_A, GIVE_A, ("either", (BACK_A,), (BACK_A,)), GIVE_A)

    def test_handed_out_otherwise_behind_a_rounds_items(self):
        self.wrong(WRITE_A, ("round", (GIVE_A,)))
        self.wrong(WRITE_A, GIVE_A, ("round", (BACK_A,)))
        self.wrong(WRITE_A, WRITE_B, GIVE_A, ("round", (BACK_A, GIVE_B)))
        self.wrong(WRITE_A, ("round", (("either", (GIVE_A,), ()), BACK_A)))

    def test_all_short_programs_over_one_thing(self):
        tokens = (WRITE_A, READ_A, GIVE_A, BACK_A)
        sides, ends = sequences(tokens, 2), sequences(tokens, 1)
        inner = [("either", one, other) for one in sides for other in sides] + [("round", side) for side in sides]
        programs = sequences(tokens, 5)
        programs += [ahead + (item,) + behind for ahead in ends for item in inner for behind in ends]
        programs += [(WRITE_A,) + ahead + (item,) for ahead in ends for item in inner]
        for items in programs:
            self.assertIs(is_program((((1, 1),), items)), oracle.is_right(items), items)

    def test_made_programs_with_a_row_left_out_or_another_in_its_place(self):
        wrong = 0
        for program in made_programs(150):
            for items in changed_items(program[1]):
                told = oracle.is_right(items)
                wrong += not told
                self.assertIs(is_program((program[0], items)), told, items)
        self.assertGreater(wrong, 100)


def changed_items(items):
    """The items with one of them, at any depth, left out or in another form."""
    told = []
    for at, item in enumerate(items):
        ahead, behind = items[:at], items[at + 1:]
        told.append(ahead + behind)
        if item[0] in ("give", "back"):
            told.append(ahead + (("back" if item[0] == "give" else "give", item[1]),) + behind)
        if item[0] == "round":
            told.append(ahead + item[1] + behind)
        for place in range(1, len(item)):
            if item[0] in ("either", "round"):
                for side in changed_items(item[place]):
                    told.append(ahead + (item[:place] + (side,) + item[place + 1:],) + behind)
    return told


class WrongShapeTest(IsProgramTest):
    def test_any_other_thing(self):
        for thing in other_values():
            self.assertIs(is_program(thing), False, thing)
            self.assertIs(is_program((thing,)), False, thing)
            self.assertIs(is_program([thing]), False, thing)
            self.assertIs(is_program((thing, thing)), False, thing)

    def test_any_other_thing_in_the_place_of_a_part(self):
        for thing in other_values():
            self.assertIs(is_program((thing, ())), False, thing)
            self.assertIs(is_program(((), thing)), False, thing)
            self.assertIs(is_program(((thing,), ())), False, thing)
            self.assertIs(is_program((((1, 1), thing), ())), False, thing)
            self.wrong(thing)
            self.wrong(WRITE_A, thing)
            self.wrong(("round", thing))
            self.wrong(("round", (thing,)))
            self.wrong(("either", thing, ()))
            self.wrong(("either", (), thing))
            self.wrong(("either", (), (thing,)))
            self.wrong((thing,))
            self.wrong((thing, (), None))
            self.wrong((thing, 0))

    def test_any_other_thing_in_the_place_of_a_number(self):
        for thing in other_values():
            if thing not in (0, 1) or thing is True or thing is False:
                self.wrong(WRITE_A, WRITE_B, ("row", (thing,), None))
                self.wrong(WRITE_A, WRITE_B, ("row", (0, thing), None))
                self.wrong(WRITE_A, WRITE_B, ("give", thing))
                self.wrong(WRITE_A, WRITE_B, GIVE_A, GIVE_B, ("back", thing))
            if thing is not None and (thing not in (0, 1) or thing is True or thing is False):
                self.wrong(("row", (), thing))
            if thing != ():
                self.wrong(("row", thing, None))

    def test_things_that_are_none(self):
        for thing in ((0, 1), (1, 0), (-1, 1), (1, -4), (True, 1), (1, True), ("1", 1), (1, None), (1,), (1, 1, 1),
                      [1, 1]):
            self.assertIs(is_program(((thing,), ())), False, thing)
            self.assertIs(is_program((((1, 1), thing), (WRITE_A,))), False, thing)
            self.assertIs(is_program(((thing, (1, 1)), (QUIET,))), False, thing)

    def test_lists_in_the_place_of_tuples(self):
        self.assertIs(is_program([PAIR, ()]), False)
        self.assertIs(is_program([PAIR, (WRITE_A,)]), False)
        self.assertIs(is_program((list(PAIR), ())), False)
        self.assertIs(is_program(([], ())), False)
        self.assertIs(is_program((PAIR, [])), False)
        self.assertIs(is_program((PAIR, [WRITE_A])), False)
        self.wrong(["row", (), 0])
        self.wrong(("row", [], 0))
        self.wrong(WRITE_A, ("row", [0], None))
        self.wrong(WRITE_A, ["give", 0])
        self.wrong(WRITE_A, GIVE_A, ["back", 0])
        self.wrong(["round", ()])
        self.wrong(("round", []))
        self.wrong(("round", [QUIET]))
        self.wrong(["either", (), ()])
        self.wrong(("either", [], ()))
        self.wrong(("either", (), []))
        self.wrong(("either", (QUIET,), [QUIET]))

    def test_numbers_beyond_the_last_thing_and_below_nought(self):
        for t in (2, 3, 100, 10 ** 12, -1, -2, -10 ** 12):
            self.wrong(("row", (), t))
            self.wrong(WRITE_A, WRITE_B, ("row", (t,), None))
            self.wrong(WRITE_A, WRITE_B, ("row", (0, t), None))
            self.wrong(WRITE_A, WRITE_B, ("give", t))
            self.wrong(WRITE_A, WRITE_B, GIVE_A, GIVE_B, ("back", t))
            self.wrong(("round", (("row", (), t),)))
            self.wrong(("either", (), (("row", (), t),)))
        self.assertIs(is_program(((), (WRITE_A,))), False)
        self.assertIs(is_program((((1, 1),), (WRITE_A, WRITE_B))), False)

    def test_true_and_false_are_no_numbers(self):
        for t in (True, False):
            self.wrong(("row", (), t))
            self.wrong(WRITE_A, WRITE_B, ("row", (t,), None))
            self.wrong(WRITE_A, WRITE_B, ("give", t))
            self.wrong(WRITE_A, WRITE_B, GIVE_A, GIVE_B, ("back", t))

    def test_none_stands_for_a_write_alone(self):
        self.wrong(("row", None, None))
        self.wrong(WRITE_A, ("row", (None,), None))
        self.wrong(WRITE_A, ("give", None))
        self.wrong(WRITE_A, GIVE_A, ("back", None))

    def test_reads_alike(self):
        self.wrong(WRITE_A, ("row", (0, 0), None))
        self.wrong(WRITE_A, WRITE_B, ("row", (0, 1, 0), None))
        self.wrong(WRITE_A, WRITE_B, ("row", (1, 0, 0, 1), 1))

    def test_reads_that_are_no_tuple(self):
        for reads in (0, "", "0", {}, {0: 0}, None):
            self.wrong(WRITE_A, ("row", reads, None))

    def test_parts_left_out_or_put_in(self):
        self.wrong(())
        self.wrong(("row",))
        self.wrong(("row", ()))
        self.wrong(("row", 0))
        self.wrong(("row", (), 0, 0))
        self.wrong(("row", (), None, None))
        self.wrong(WRITE_A, ("give",))
        self.wrong(WRITE_A, ("give", 0, 0))
        self.wrong(WRITE_A, ("give", (0,)))
        self.wrong(WRITE_A, GIVE_A, ("back",))
        self.wrong(WRITE_A, GIVE_A, ("back", 0, None))
        self.wrong(("round",))
        self.wrong(("round", (), ()))
        self.wrong(("round", QUIET))
        self.wrong(("either",))
        self.wrong(("either", ()))
        self.wrong(("either", (QUIET,)))
        self.wrong(("either", (), (), ()))
        self.wrong(("either", QUIET, ()))
        self.wrong(("either", (), QUIET))
        self.assertIs(is_program(()), False)
        self.assertIs(is_program((PAIR,)), False)
        self.assertIs(is_program((PAIR, (), ())), False)
        self.assertIs(is_program(((), PAIR, ())), False)
        self.assertIs(is_program((PAIR, WRITE_A)), False)

    def test_calls(self):
        self.assertIs(is_program(CALLING), False)
        self.wrong(("call", 0, (), None))
        self.wrong(WRITE_A, ("call", 0, (0,), 1))
        self.wrong(("round", (("call", 0, (), None),)))
        self.wrong(("either", (), (("call", 0, (), None),)))

    def test_unknown_words(self):
        for word in ("", "rows", "Row", "ROW", "ro", " row", "read", "write", "eithers", "if", "round ", "gives"):
            self.wrong((word,))
            self.wrong((word, (), None))
            self.wrong(WRITE_A, (word, 0))
            self.wrong((word, (), ()))
            self.wrong((word, ()))

    def test_wrong_ones_within_others(self):
        for item in (("row", (), 2), ("either", ()), ("call", 0, (), None), READ_A, ["round", ()], None, ("round", [])):
            self.wrong(("round", (QUIET, item)))
            self.wrong(("either", (QUIET, item), ()))
            self.wrong(("either", (), (item, QUIET)))
            self.wrong(("round", (("either", (), (("round", (item,)),)),)))
            self.wrong(QUIET, ("round", ()), item)

    def test_what_is_looked_at_stays(self):
        odd = ([[1, 1]], [["row", [], {"a": [0]}]])
        before = copy.deepcopy(odd)
        self.assertIs(is_program(odd), False)
        self.assertEqual(odd, before)
        for program in (LINE, FORKED, LOOPED, HANDED):
            before = copy.deepcopy(program)
            self.assertIs(is_program(program), True)
            self.assertEqual(program, before)


if __name__ == "__main__":
    unittest.main()
