import copy
import unittest

from frameshare.bounds import bound, crowd_bound, loads
from frameshare.flows import (
    first_rows, given_behind, is_program, last_rows, next_rows, rows_of, written_ahead,
)
from frameshare.houses import is_house, stays
from frameshare.lives import alive_behind, busy_behind, clashes, in_one_stretch, stretch_of
from frameshare.rules import order_by, placed_by
from frameshare.ways import is_way, way_of
from tests import oracle
from tests.samples import (
    CALLING, EMPTY, QUIET, READ_A, READ_B, READ_C, SAMPLES, WRITE_A, WRITE_B, WRITE_C, made_houses, made_programs,
    with_rows_for_calls,
)
from tests.slow_house import slow_stays
from tests.wrongs import nested, other_values

PAIR = ((4, 4), (8, 8))
TRIO = ((4, 4), (8, 8), (2, 2))
GIVE_A, BACK_A = ("give", 0), ("back", 0)
PLAIN = (PAIR, (WRITE_A, READ_A))
CALL = ("call", 0, (), None)
WORDS = ("told", "great", "long", "early")


def house_with(*items):
    """A house of a plain function and one of two things with these items."""
    return PLAIN, (PAIR, items)


class IsHouseTest(unittest.TestCase):
    def right(self, *items):
        self.assertIs(is_house(house_with(*items)), True, items)

    def wrong(self, *items):
        self.assertIs(is_house(house_with(*items)), False, items)


class RightHouseTest(IsHouseTest):
    def test_one_function(self):
        for program in SAMPLES:
            self.assertIs(is_house((program,)), True, program)

    def test_several_functions(self):
        self.assertIs(is_house(SAMPLES), True)
        self.assertIs(is_house((EMPTY, EMPTY)), True)
        self.assertIs(is_house((PLAIN, PLAIN, PLAIN, CALLING)), True)

    def test_calls_of_functions_ahead(self):
        self.right(CALL)
        self.right(CALL, CALL)
        self.right(("call", 0, (), 1), READ_B)
        self.right(WRITE_A, WRITE_B, ("call", 0, (1, 0), 1))
        self.right(WRITE_A, ("call", 0, (0,), 0), READ_A)
        calls = (("call", 2, (), None), ("call", 0, (), None), ("call", 1, (), None))
        self.assertIs(is_house((EMPTY, EMPTY, EMPTY, ((), calls))), True)

    def test_calls_within_a_side_or_a_round(self):
        self.right(("round", (CALL,)))
        self.right(("either", (CALL,), ()))
        self.right(("either", (), (("round", (CALL,)),)))
        self.right(("either", (("call", 0, (), 0),), (WRITE_A,)), READ_A)
        self.right(WRITE_A, ("round", (("call", 0, (0,), 1), READ_B)), READ_A)

    def test_what_a_call_writes_may_be_given(self):
        self.right(("call", 0, (), 0), GIVE_A, ("call", 0, (0,), 0), BACK_A)

    def test_many_functions(self):
        for many in (6, 7, 20, 40, 300):
            house = tuple((PAIR, tuple(("call", f, (), 0) for f in range(g))) for g in range(min(many, 40)))
            house += tuple((PAIR, (("call", g - 1, (), 0), READ_A)) for g in range(40, many))
            self.assertIs(is_house(house), True, many)
            for f in (many, many + 1, -1):
                self.assertIs(is_house(house + ((PAIR, (("call", f, (), 0),)),)), False, (many, f))
            self.assertIs(is_house(house + ((PAIR, (("call", many - 1, (), 0),)),)), True, many)
            self.assertIs(is_house(house[:-1] + ((PAIR, (READ_A,)),)), False, many)

    def test_many_things_and_rows(self):
        things = tuple((1 + t, 1) for t in range(300))
        writes = tuple(("call", 0, (), t) for t in range(300))
        items = writes + (("call", 0, tuple(range(300)), 299),) * 50
        self.assertIs(is_house((PLAIN, (things, items))), True)
        self.assertIs(is_house((PLAIN, (things, items[1:]))), False)

    def test_deep_ones(self):
        for deep in (1, 5, 15, 16, 17):
            rounds = nested(lambda inner: ("round", (inner, READ_A)), deep, CALL)
            self.right(WRITE_A, rounds)
            self.wrong(rounds)
            self.wrong(WRITE_A, nested(lambda inner: ("round", (inner,)), deep, ("call", 1, (), None)))
            self.right(nested(lambda inner: ("either", (), (inner,)), deep, ("call", 0, (), 1)))

    def test_made_ones(self):
        for house in made_houses(300):
            self.assertIs(is_house(house), True, house)
        for program in made_programs(100, True):
            self.assertIs(is_house((EMPTY, PLAIN, EMPTY, program)), True)


class WrongHouseTest(IsHouseTest):
    def test_none(self):
        self.assertIs(is_house(()), False)

    def test_lists(self):
        self.assertIs(is_house([]), False)
        self.assertIs(is_house([PLAIN]), False)
        self.assertIs(is_house([PLAIN, PLAIN]), False)
        self.assertIs(is_house((list(PLAIN),)), False)
        self.assertIs(is_house(((list(PAIR), ()),)), False)
        self.assertIs(is_house(((PAIR, []),)), False)
        self.wrong(list(CALL))
        self.wrong(("call", 0, [], None))
        self.wrong(("round", [CALL]))
        self.wrong(("either", [CALL], ()))

    def test_a_program_is_no_house(self):
        for program in SAMPLES + (CALLING, PLAIN):
            self.assertIs(is_house(program), False, program)

    def test_a_call_of_itself_or_of_one_behind(self):
        self.wrong(("call", 1, (), None))
        self.wrong(("call", 2, (), None))
        self.wrong(("round", (("call", 1, (), None),)))
        self.assertIs(is_house((((), (CALL,)),)), False)
        self.assertIs(is_house((((), (CALL,)), EMPTY)), False)
        self.assertIs(is_house((((), (("call", 1, (), None),)), EMPTY)), False)
        self.assertIs(is_house((EMPTY, ((), (("call", 2, (), None),)), EMPTY)), False)
        self.assertIs(is_house((EMPTY, EMPTY, ((), (("call", 2, (), None),)))), False)
        self.assertIs(is_house((EMPTY, EMPTY, ((), (("call", 1, (), None),)))), True)

    def test_numbers_beyond_or_below_nought(self):
        for f in (2, 7, 10 ** 12, -1, -2):
            self.wrong(("call", f, (), None))
        for t in (2, 10 ** 12, -1, -2):
            self.wrong(WRITE_A, WRITE_B, ("call", 0, (t,), None))
            self.wrong(WRITE_A, WRITE_B, ("call", 0, (0, t), None))
            self.wrong(("call", 0, (), t))

    def test_true_and_false_are_no_numbers(self):
        two = (EMPTY, EMPTY)
        for odd in (True, False):
            self.assertIs(is_house(two + ((PAIR, (("call", odd, (), None),)),)), False)
            self.assertIs(is_house(two + ((PAIR, (WRITE_A, WRITE_B, ("call", 0, (odd,), None))),)), False)
            self.assertIs(is_house(two + ((PAIR, (("call", 0, (), odd),)),)), False)
            self.assertIs(is_house(((((odd, 1),), ()),)), False)
            self.assertIs(is_house(((((1, odd),), ()),)), False)

    def test_reads_that_are_alike(self):
        self.wrong(WRITE_A, ("call", 0, (0, 0), None))
        self.wrong(WRITE_A, WRITE_B, ("call", 0, (0, 1, 0), 1))

    def test_a_read_of_what_is_not_written_ahead(self):
        self.wrong(("call", 0, (0,), None))
        self.wrong(("call", 0, (0,), 0))
        self.wrong(WRITE_B, ("call", 0, (1, 0), None))
        self.wrong(("round", (WRITE_A,)), ("call", 0, (0,), None))
        self.wrong(("either", (("call", 0, (), 0),), ()), READ_A)
        self.wrong(("round", (("call", 0, (), 0),)), READ_A)
        self.wrong(("call", 0, (), None), READ_A)

    def test_what_a_called_one_writes_is_its_own(self):
        # The called function writes its own thing 0, which isn't the asker's.
        self.wrong(CALL, READ_A)

    def test_parts_left_out_or_put_in(self):
        self.wrong(("call",))
        self.wrong(("call", 0))
        self.wrong(("call", 0, ()))
        self.wrong(("call", (), None))
        self.wrong(("call", 0, None))
        self.wrong(("call", 0, (), None, None))
        self.wrong(("call", 0, None, None))
        self.wrong(("calls", 0, (), None))
        self.wrong(("Call", 0, (), None))
        self.wrong(WRITE_A, ("call", 0, 0, None))
        self.wrong(WRITE_A, ("row", 0, (0,), None))
        self.wrong(("call", None, (), None))

    def test_a_function_that_is_not_right_by_itself(self):
        wrongs = (
            (PAIR, (READ_A,)), (PAIR, (WRITE_A, BACK_A)), (PAIR, (WRITE_A, GIVE_A, GIVE_A)), (((0, 1),), ()),
            (PAIR, (WRITE_C,)), (PAIR, (("round", (WRITE_A,)), READ_A)), (PAIR,), (PAIR, (), ()), PAIR,
        )
        for wrong in wrongs:
            self.assertIs(is_house((wrong,)), False, wrong)
            self.assertIs(is_house((PLAIN, wrong)), False, wrong)
            self.assertIs(is_house((wrong, PLAIN)), False, wrong)
            self.assertIs(is_house((PLAIN, wrong, PLAIN)), False, wrong)

    def test_sides_that_hand_out_or_take_back_alike(self):
        self.wrong(WRITE_A, ("either", (GIVE_A,), (GIVE_A,)))
        self.wrong(WRITE_A, ("either", (CALL, GIVE_A), (GIVE_A, CALL)), BACK_A)
        self.wrong(WRITE_A, GIVE_A, ("either", (BACK_A,), (BACK_A,)))
        self.wrong(WRITE_A, GIVE_A, ("either", (BACK_A, CALL), (CALL, BACK_A)), GIVE_A)
        self.right(WRITE_A, ("either", (GIVE_A, CALL, BACK_A), (CALL,)))

    def test_any_other_thing(self):
        for thing in other_values():
            self.assertIs(is_house(thing), False, thing)
            self.assertIs(is_house((thing,)), False, thing)
            self.assertIs(is_house([thing]), False, thing)
            self.assertIs(is_house((PLAIN, thing)), False, thing)
            self.assertIs(is_house((thing, PLAIN)), False, thing)
            self.assertIs(is_house(((thing, ()),)), False, thing)
            self.assertIs(is_house((((), thing),)), False, thing)
            self.wrong(thing)
            self.wrong((thing, 0, (), None))
            self.wrong(("round", thing))
            self.wrong(("either", (), (thing,)))

    def test_any_other_thing_in_a_call(self):
        for thing in other_values():
            if thing != 0 or thing is False:
                self.wrong(("call", thing, (), None))
            if thing != ():
                self.wrong(WRITE_A, WRITE_B, ("call", 0, thing, None))
            if thing not in (0, 1, None) or thing is True or thing is False:
                self.wrong(WRITE_A, WRITE_B, ("call", 0, (), thing))
            if thing not in (0, 1) or thing is True or thing is False:
                self.wrong(WRITE_A, WRITE_B, ("call", 0, (thing,), None))

    def test_made_ones_with_plain_rows_are_right_alike(self):
        """Where the called ones are there, a call is as right as a row with its reads and write."""
        wrong = 0
        for program in made_programs(200, True):
            for at in range(len(program[1])):
                items = program[1][:at] + program[1][at + 1:]
                told = oracle.is_right(items)
                wrong += not told
                self.assertIs(is_house((EMPTY, EMPTY, EMPTY, (program[0], items))), told, items)
                self.assertIs(is_program(with_rows_for_calls((program[0], items))), told, items)
        self.assertGreater(wrong, 50)

    def test_what_is_looked_at_stays(self):
        odd = [PLAIN, ([[1, 1]], [["call", 0, [], {"a": [0]}]])]
        before = copy.deepcopy(odd)
        self.assertIs(is_house(odd), False)
        self.assertIs(is_house(tuple(odd)), False)
        self.assertEqual(odd, before)


class StaysTest(unittest.TestCase):
    def stays(self, items, told):
        house = (PLAIN, (TRIO, items))
        self.assertIs(is_house(house), True, items)
        self.assertEqual(stays(house, 1), told, items)

    def test_no_calls(self):
        self.stays((), [])
        self.stays((WRITE_A, READ_A), [])
        for program in SAMPLES:
            self.assertEqual(stays((program,), 0), [])

    def test_what_it_reads(self):
        self.stays((WRITE_A, WRITE_B, ("call", 0, (1, 0), None)), [(2, [0, 1])])
        self.stays((WRITE_A, WRITE_B, ("call", 0, (1,), None)), [(2, [1])])
        self.stays((WRITE_A, WRITE_B, ("call", 0, (), None)), [(2, [])])

    def test_what_is_alive_behind_it(self):
        self.stays((WRITE_A, WRITE_B, CALL, READ_B), [(2, [1])])
        self.stays((WRITE_A, WRITE_B, ("call", 0, (0,), None), READ_B), [(2, [0, 1])])
        self.stays((WRITE_A, CALL, WRITE_A, READ_A), [(1, [])])

    def test_but_what_it_writes(self):
        self.stays((("call", 0, (), 0), READ_A), [(0, [])])
        self.stays((WRITE_A, WRITE_B, ("call", 0, (), 0), ("row", (0, 1), None)), [(2, [1])])
        self.stays((WRITE_A, ("call", 0, (), 2), ("row", (0, 2), None)), [(1, [0])])
        self.stays((("call", 0, (), 0),), [(0, [])])

    def test_what_it_reads_and_writes(self):
        self.stays((WRITE_A, ("call", 0, (0,), 0), READ_A), [(1, [0])])
        self.stays((WRITE_A, ("call", 0, (0,), 0)), [(1, [0])])
        self.stays((WRITE_A, WRITE_B, ("call", 0, (1, 0), 0), READ_B), [(2, [0, 1])])

    def test_what_is_handed_out(self):
        self.stays((WRITE_A, GIVE_A, CALL, BACK_A, CALL), [(2, [0]), (4, [])])
        self.stays((WRITE_A, GIVE_A, CALL), [(2, [0])])
        self.stays((WRITE_A, WRITE_C, ("give", 2), GIVE_A, CALL), [(4, [0, 2])])

    def test_what_is_handed_out_and_written(self):
        self.stays((WRITE_A, GIVE_A, ("call", 0, (), 0), BACK_A), [(2, [0])])
        self.stays((WRITE_A, GIVE_A, ("call", 0, (0,), 0)), [(2, [0])])

    def test_in_eithers_and_rounds(self):
        self.stays(
            (WRITE_A, ("either", (CALL, READ_A), (("call", 0, (0,), 1), READ_B)), ("round", (CALL,)), WRITE_C, CALL,
             READ_C),
            [(1, [0]), (3, [0]), (5, []), (7, [2])],
        )
        # What the round's next going reads is alive behind its last row.
        self.stays((WRITE_A, ("round", (READ_A, CALL)), CALL), [(2, [0]), (3, [])])
        self.stays((WRITE_A, ("round", (READ_A, ("call", 0, (), 0)))), [(2, [])])
        self.stays((WRITE_A, ("either", (CALL,), (QUIET,)), READ_A), [(1, [0])])

    def test_calls_in_the_first_function_asked_of_each(self):
        house = (EMPTY, (PAIR, (WRITE_A, CALL, READ_A)), (TRIO, (WRITE_C, ("call", 1, (2,), None), CALL)))
        self.assertEqual([stays(house, g) for g in range(3)], [[], [(1, [0])], [(1, [2]), (2, [])]])

    def test_far_apart_numbers_rise(self):
        things = tuple((1, 1) for t in range(20))
        writes = tuple(("row", (), t) for t in (17, 1, 16, 9, 8))
        house = (PLAIN, (things, writes + (("give", 16), ("call", 0, (17, 8), 3), ("row", (9, 1, 3), None))))
        self.assertEqual(stays(house, 1), [(6, [1, 8, 9, 16, 17])])

    def test_by_all_ways(self):
        many = 0
        for house in [(EMPTY, EMPTY, EMPTY, program) for program in made_programs(300, True)]:
            told = stays(house, 3)
            self.assertEqual(told, slow_stays(house, 3), house)
            self.assertEqual([type(pair) for pair in told], [tuple] * len(told))
            self.assertEqual([type(pair[1]) for pair in told], [list] * len(told))
            many += len(told)
        self.assertGreater(many, 300)

    def test_told_lists_are_the_askers_own(self):
        for house in made_houses(100):
            before = copy.deepcopy(house)
            for g in range(len(house)):
                told = stays(house, g)
                same = copy.deepcopy(told)
                lists = [told] + [pair[1] for pair in told] + [pair[1] for pair in stays(house, g)]
                self.assertEqual(len({id(one) for one in lists}), len(lists))
                for pair in told:
                    pair[1].append(77)
                told.append(78)
                self.assertEqual(stays(house, g), same)
            self.assertEqual(house, before)


class CallsAreRowsTest(unittest.TestCase):
    def test_as_plain_rows_of_the_same_reads_and_writes(self):
        tellers = [first_rows, last_rows, next_rows, written_ahead, given_behind, alive_behind, busy_behind, clashes,
                   in_one_stretch, loads, bound, crowd_bound]
        tellers += [lambda program, word=word: order_by(program, word) for word in WORDS]
        tellers += [lambda program, word=word: placed_by(program, word) for word in WORDS]
        tellers += [lambda program, choices=choices: way_of(program, choices) for choices in ([], [1], [1, 1, 0, 1])]
        functions = [function for house in made_houses(200) for function in house] + made_programs(100, True)
        for function in functions:
            plain = with_rows_for_calls(function)
            self.assertIs(is_program(plain), True)
            for tell in tellers:
                self.assertEqual(tell(function), tell(plain), function)
            for t in range(len(function[0])):
                self.assertEqual(stretch_of(function, t), stretch_of(plain, t))
            self.assertIs(is_way(function, way_of(plain, [1, 0, 1])), True)
            self.assertIs(is_way(function, [0, 0]), is_way(plain, [0, 0]))

    def test_rows_of_tells_the_calls_as_they_stand(self):
        calls = [("call", 0, (0,), 1), ("call", 1, (1, 0), 2), ("call", 0, (), 2), ("call", 2, (1,), None)]
        self.assertEqual(rows_of(CALLING), [WRITE_A, calls[0], calls[1], ("give", 2), ("back", 2), calls[2], READ_C,
                                            calls[3]])
        for program in made_programs(100, True):
            self.assertEqual(rows_of(program), oracle.Oracle(program).rows)

    def test_one_that_calls_is_no_program(self):
        some = 0
        for house in made_houses(200):
            self.assertIs(is_program(house[0]), True)
            for function in house:
                calls = any(item[0] == "call" for item in rows_of(function))
                some += calls
                self.assertIs(is_program(function), not calls)
        self.assertGreater(some, 50)


if __name__ == "__main__":
    unittest.main()
