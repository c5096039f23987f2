import copy
import unittest

from frameshare.papercheck import shows_none
from tests.samples import Dice, all_pairs, made_frames
from tests.slow import has_placing, slow_shows
from tests.wrongs import nested, other_values

TRIO = ((4, 4), (6, 2), (3, 1))
ALL = all_pairs(3)
GREAT = 10 ** 10 - 1
# Of the things 0 and 1 either one lies below: 0 to 4 and 4 to 10, or 0 to 6 and 8 to 12.
BOTH = ("pair", 0, 1, ("stack", (0, 1)), ("stack", (1, 0)))
# All six orders of the three, each told pair by pair.
SIX = (
    "pair", 0, 1,
    ("pair", 1, 2,
     ("stack", (0, 1, 2)),
     ("pair", 0, 2, ("stack", (0, 2, 1)), ("stack", (2, 0, 1)))),
    ("pair", 0, 2,
     ("stack", (1, 0, 2)),
     ("pair", 1, 2, ("stack", (1, 2, 0)), ("stack", (2, 1, 0)))),
)
# As SIX, but for each pair asked of on each way: what can't be is told by rings.
RINGED = (
    "pair", 0, 1,
    ("pair", 0, 2,
     ("pair", 1, 2, ("stack", (0, 1, 2)), ("stack", (0, 2, 1))),
     ("pair", 1, 2, ("ring", (0, 1, 2, 0)), ("stack", (2, 0, 1)))),
    ("pair", 0, 2,
     ("pair", 1, 2, ("stack", (1, 0, 2)), ("ring", (2, 1, 0, 2))),
     ("pair", 1, 2, ("stack", (1, 2, 0)), ("stack", (2, 1, 0)))),
)


def changed(tree):
    """All trees that come of it by another value, kind or length at one spot."""
    for other in (True, False, None, -1, 3, "", "stack", (), [], {}, (0,), 10 ** 12):
        yield other
    if isinstance(tree, int):
        yield tree + 1
        yield tree - 1
        yield str(tree)
        yield bool(tree)
    if isinstance(tree, str):
        yield tree + "s"
        yield tree.upper()
        yield (tree,)
    if isinstance(tree, tuple):
        yield list(tree)
        yield tree + (0,)
        yield tree + (None,)
        yield tree[:-1]
        yield (0,) + tree
        yield tree[1:]
        yield dict(enumerate(tree))
        for at, part in enumerate(tree):
            for other in changed(part):
                yield tree[:at] + (other,) + tree[at + 1:]


def drawn_order(dice, many):
    return tuple(dice.below(many) for at in range(dice.below(4)))


def drawn_tree(dice, many, pairs, depth, told=()):
    """A tree that may be right or not; its orders mostly keep to what is told."""
    kind = dice.below(6)
    if kind < 4 and depth and pairs:
        t, u = pairs[dice.below(len(pairs))]
        one = drawn_tree(dice, many, pairs, depth - 1, (*told, (t, u)))
        other = drawn_tree(dice, many, pairs, depth - 1, (*told, (u, t)))
        return ("pair", t, u, one, other)
    order = [dice.below(many)]
    for step in range(1 + dice.below(4)):
        onward = [u for t, u in told if t == order[-1]]
        if onward:
            order.append(onward[dice.below(len(onward))])
    if dice.below(12) == 0:
        order = drawn_order(dice, many)
    return ("stack" if dice.below(3) else "ring", tuple(order))


class StackTest(unittest.TestCase):
    def yes(self, limit, tree, pairs=ALL):
        self.assertIs(shows_none(TRIO, pairs, limit, tree), True, (limit, tree))

    def no(self, limit, tree, pairs=ALL):
        self.assertIs(shows_none(TRIO, pairs, limit, tree), False, (limit, tree))

    def test_of_none(self):
        for limit in (-1, -2, -100, -10 ** 12):
            self.yes(limit, ("stack", ()))
            self.assertIs(shows_none((), [], limit, ("stack", ())), True)
        for limit in (0, 1, 10 ** 12):
            self.no(limit, ("stack", ()))
            self.assertIs(shows_none((), [], limit, ("stack", ())), False)

    def test_of_one(self):
        for t, size in ((0, 4), (1, 6), (2, 3)):
            self.yes(size - 1, ("stack", (t,)))
            self.yes(0, ("stack", (t,)), [])
            self.yes(-1, ("stack", (t,)))
            self.no(size, ("stack", (t,)))
            self.no(size + 1, ("stack", (t,)), [])

    def test_of_two(self):
        self.yes(9, BOTH)
        self.yes(0, BOTH)
        self.yes(-5, BOTH)
        self.no(10, BOTH)
        self.no(11, BOTH)
        self.yes(9, BOTH, [(0, 1)])

    def test_of_three(self):
        self.yes(12, SIX)
        self.no(13, SIX)

    def test_borders_count(self):
        things = ((1, 1), (8, 8))
        tree = ("pair", 0, 1, ("stack", (0, 1)), ("stack", (1, 0)))
        self.assertIs(shows_none(things, [(0, 1)], 8, tree), True)
        self.assertIs(shows_none(things, [(0, 1)], 9, tree), False)
        self.assertIs(shows_none(((3, 4), (5, 4)), [(0, 1)], 8, tree), True)
        self.assertIs(shows_none(((3, 4), (5, 4)), [(0, 1)], 9, tree), False)

    def test_some_of_what_was_told(self):
        self.yes(5, ("pair", 0, 1, ("stack", (1,)), ("stack", (1, 0))))
        self.yes(5, ("pair", 0, 2, ("stack", (1,)), ("stack", (1,))))
        self.yes(2, ("pair", 0, 2, ("stack", (2,)), ("stack", (0,))))

    def test_what_was_told_straight_alone(self):
        # 0 below 1 and 1 below 2 were told, 0 below 2 was not.
        self.no(3, ("pair", 0, 1, ("pair", 1, 2, ("stack", (0, 2)), ("stack", (0,))), ("stack", (0,))))
        self.yes(3, ("pair", 0, 1, ("pair", 1, 2, ("stack", (0, 1, 2)), ("stack", (0,))), ("stack", (0,))))

    def test_not_as_was_told(self):
        self.no(9, ("pair", 0, 1, ("stack", (1, 0)), ("stack", (0, 1))))
        self.no(9, ("pair", 0, 1, ("stack", (0, 1)), ("stack", (0, 1))))
        self.no(9, ("pair", 0, 1, ("stack", (1, 0)), ("stack", (1, 0))))
        self.no(3, ("stack", (0, 1)))
        self.no(3, ("stack", (1, 2, 0)))

    def test_told_on_another_way(self):
        # 0 below 2 is told beside, on the way to the first part alone.
        self.no(3, ("pair", 0, 1, ("pair", 0, 2, ("stack", (0, 2)), ("stack", (2, 0))), ("stack", (0, 2))))
        self.no(3, ("pair", 0, 1, ("stack", (2, 0)), ("pair", 0, 2, ("stack", (0, 2)), ("stack", (2, 0)))))

    def test_a_thing_twice(self):
        self.no(3, ("stack", (0, 0)))
        twice = ("pair", 0, 1, ("pair", 0, 1, ("stack", (0,)), ("stack", (0, 1, 0))), ("stack", (0,)))
        self.no(3, twice)

    def test_a_pair_asked_twice(self):
        twice = ("pair", 0, 1, ("pair", 0, 1, ("stack", (0, 1)), ("ring", (0, 1, 0))), ("stack", (1, 0)))
        self.yes(9, twice)
        self.no(10, twice)
        self.yes(9, ("pair", 0, 1, BOTH, BOTH))
        self.yes(9, ("pair", 0, 2, BOTH, BOTH))
        self.no(10, ("pair", 0, 1, BOTH, BOTH))

    def test_great_ones(self):
        things = ((GREAT, 1), (GREAT, GREAT - 1))
        tree = ("pair", 0, 1, ("stack", (0, 1)), ("stack", (1, 0)))
        self.assertIs(shows_none(things, [(0, 1)], 2 * GREAT - 1, tree), True)
        self.assertIs(shows_none(things, [(0, 1)], 2 * GREAT, tree), False)
        self.assertIs(shows_none(((GREAT, 1),), [], GREAT - 1, ("stack", (0,))), True)

    def test_twenty_things(self):
        things = tuple((1, 1 + t) for t in range(20))
        chain = ("stack", tuple(range(20)))
        end = 1
        for t in range(1, 20):
            end = -(-end // (1 + t)) * (1 + t) + 1
        for t in reversed(range(19)):
            chain = ("pair", t, t + 1, chain, ("stack", (t + 1, t)))
        self.assertIs(shows_none(things, all_pairs(20), 1, chain), True)
        self.assertIs(shows_none(things, all_pairs(20), 2, chain), False)
        self.assertGreater(end, 20)
        ones = ("stack", (19,))
        for t in reversed(range(19)):
            ones = ("pair", t, 19, ones, ones) if t > 9 else ones
        self.assertIs(shows_none(things, all_pairs(20), 0, ones), True)
        self.assertIs(shows_none(things, all_pairs(20), 1, ones), False)
        self.assertIs(shows_none(things, all_pairs(19), 0, ones), False)


class RingTest(unittest.TestCase):
    def test_of_three(self):
        self.assertIs(shows_none(TRIO, ALL, 12, RINGED), True)
        self.assertIs(shows_none(TRIO, ALL, 13, RINGED), False)

    def test_it_may_begin_anywhere(self):
        for ring in ((0, 1, 2, 0), (1, 2, 0, 1), (2, 0, 1, 2), (0, 1, 2, 0, 1, 2, 0)):
            tree = ("pair", 1, 2, ("ring", ring), ("stack", (2, 0, 1)))
            tree = RINGED[:3] + (RINGED[3][:4] + (tree,),) + RINGED[4:]
            self.assertIs(shows_none(TRIO, ALL, 12, tree), True, ring)

    def test_not_closed_or_not_told(self):
        for ring in ((), (0,), (0, 0), (0, 1), (0, 1, 2), (1, 2, 0), (0, 2, 1, 0), (0, 1, 0), (2, 0, 1), (0, 1, 2, 1),
                     (0, 1, 2, 0, 1), (0, 2, 0), (1, 1), (0, 0, 0)):
            tree = ("pair", 1, 2, ("ring", ring), ("stack", (2, 0, 1)))
            tree = RINGED[:3] + (RINGED[3][:4] + (tree,),) + RINGED[4:]
            self.assertIs(shows_none(TRIO, ALL, 12, tree), False, ring)
            self.assertIs(shows_none(TRIO, ALL, -5, tree), False, ring)

    def test_at_the_root(self):
        for ring in ((), (0,), (0, 0), (0, 1, 0), (0, 1, 2, 0)):
            self.assertIs(shows_none(TRIO, ALL, -1, ("ring", ring)), False, ring)
        self.assertIs(shows_none((), [], -1, ("ring", ())), False)

    def test_of_two(self):
        for ring, right in (((0, 1, 0), True), ((1, 0, 1), True), ((0, 1), False), ((1, 0), False), ((0, 0), False),
                            ((0, 1, 0, 1), False), ((0, 1, 0, 1, 0), True)):
            tree = ("pair", 0, 1, ("pair", 0, 1, ("stack", (0, 1)), ("ring", ring)), ("stack", (1, 0)))
            self.assertIs(shows_none(TRIO, ALL, 9, tree), right, ring)

    def test_of_five(self):
        pairs = [(0, 1), (0, 4), (1, 2), (2, 3), (3, 4)]
        tree = ("pair", 0, 4, ("stack", (0, 4)), ("ring", (0, 1, 2, 3, 4, 0)))
        for t in (3, 2, 1, 0):
            tree = ("pair", t, t + 1, tree, ("stack", (t + 1, t)))
        self.assertIs(shows_none(((1, 1),) * 5, pairs, 1, tree), True)
        self.assertIs(shows_none(((1, 1),) * 5, pairs, 2, tree), False)


class PairTest(unittest.TestCase):
    def test_those_of_pairs_alone(self):
        leaf = ("stack", (1,))
        for pairs in ([], [(0, 2)], [(0, 2), (1, 2)]):
            self.assertIs(shows_none(TRIO, pairs, 5, ("pair", 0, 1, leaf, leaf)), False)
            self.assertIs(shows_none(TRIO, pairs, 5, leaf), True)
        self.assertIs(shows_none(TRIO, [(0, 1)], 5, ("pair", 0, 1, leaf, leaf)), True)

    def test_turned_about_or_beyond(self):
        leaf = ("stack", (1,))
        for t, u in ((1, 0), (0, 0), (1, 1), (0, 3), (-1, 0), (-3, 1), (0, -2), (3, 4), (False, 1), (0, True),
                     (False, True), (None, 1), (0, "1"), ((0,), 1), (0, [1]), ({}, {}), ((0, 1), (0, 1))):
            self.assertIs(shows_none(TRIO, ALL, 5, ("pair", t, u, leaf, leaf)), False, (t, u))
            self.assertIs(shows_none(TRIO, ALL, 5, ("pair", 0, 1, ("pair", t, u, leaf, leaf), leaf)), False, (t, u))

    def test_both_parts_count(self):
        right, wrong = ("stack", (1,)), ("stack", (2,))
        self.assertIs(shows_none(TRIO, ALL, 5, ("pair", 0, 1, right, right)), True)
        self.assertIs(shows_none(TRIO, ALL, 5, ("pair", 0, 1, right, wrong)), False)
        self.assertIs(shows_none(TRIO, ALL, 5, ("pair", 0, 1, wrong, right)), False)


class OtherThingsTest(unittest.TestCase):
    def test_one_spot_changed(self):
        met = 0
        for limit, tree in ((9, BOTH), (12, SIX), (12, RINGED), (3, ("stack", (0,)))):
            for other in changed(tree):
                told = shows_none(TRIO, ALL, limit, other)
                self.assertIs(told, slow_shows(TRIO, ALL, limit, other), other)
                met += told
        # Nearly all are wrong: but a lower stack may show as much.
        self.assertLess(met, 20)

    def test_just_as_told_of_two(self):
        for other in changed(BOTH):
            if other != BOTH or "True" in repr(other) or "False" in repr(other):
                self.assertIs(shows_none(TRIO, [(0, 1)], 9, other), False, other)

    def test_words(self):
        for word in ("", "Stack", "stacks", "STACK", "pile", "pair", "ring ", " stack", 0, None, True, ("stack",)):
            self.assertIs(shows_none(TRIO, ALL, 3, (word, (0,))), False, word)
        for word in ("", "Pair", "pairs", "either", "stack", "ring", 1, None, False, ("pair",)):
            self.assertIs(shows_none(TRIO, ALL, 3, (word, 0, 1, ("stack", (0,)), ("stack", (0,)))), False, word)

    def test_lists_in_the_place_of_tuples(self):
        for tree in (["stack", (0,)], ("stack", [0]), ("stack", []), ["ring", (0, 1, 0)],
                     ["pair", 0, 1, ("stack", (0,)), ("stack", (0,))], ("pair", 0, 1, ["stack", (0,)], ("stack", (0,))),
                     ("pair", 0, 1, ("stack", (0,)), ("stack", [0])),
                     ("pair", [0, 1], ("stack", (0,)), ("stack", (0,)))):
            self.assertIs(shows_none(TRIO, ALL, 3, tree), False, tree)
            self.assertIs(shows_none(TRIO, ALL, -1, tree), False, tree)

    def test_other_kinds(self):
        for tree in [(), ("stack",), ("ring",), ("pair",), "stack", ["stack", ()], {"stack": ()}] + other_values():
            for limit in (-1, 0, 5):
                self.assertIs(shows_none(TRIO, ALL, limit, tree), False, tree)
                self.assertIs(shows_none((), [], limit, tree), False, tree)

    def test_other_kinds_within(self):
        for part in other_values():
            for tree in (("stack", part), ("ring", part), ("stack", (part, part)), ("ring", (part, part)),
                         (part, (0,)), ("pair", 0, 1, part, ("stack", (0,))), ("pair", 0, 1, ("stack", (0,)), part),
                         ("pair", part, part, ("stack", (0,)), ("stack", (0,))),
                         (part, 0, 1, ("stack", (0,)), ("stack", (0,)))):
                self.assertIs(shows_none(TRIO, ALL, 3, tree), False, tree)

    def test_forty_deep(self):
        leaf = ("stack", (0,))
        makers = [
            lambda inner: ("pair", 0, 1, inner, leaf),
            lambda inner: ("pair", 0, 1, leaf, inner),
            lambda inner: ("pair", 1, 2, inner, leaf),
        ]
        for make in makers:
            for deep in (1, 2, 20, 38):
                self.assertIs(shows_none(TRIO, ALL, 3, nested(make, deep, leaf)), True, deep)
                for inmost in ((), [], {}, None, 0, True, "stack", ("stack", (2,)), ("stack", [0]), ("ring", ())):
                    self.assertIs(shows_none(TRIO, ALL, 3, nested(make, deep, inmost)), False, (deep, inmost))
        for make in (lambda inner: (inner,), lambda inner: [inner], lambda inner: {0: inner},
                     lambda inner: ("stack", inner), lambda inner: ("ring", (inner,)),
                     lambda inner: ("stack", (inner,)), lambda inner: ("pair", 0, 1, inner, inner)):
            for deep in (1, 2, 10, 18):
                self.assertIs(shows_none(TRIO, ALL, 3, nested(make, deep, ("stack", (2,)))), False)
        for make in (lambda inner: ("stack", inner), lambda inner: ("pair", inner, inner, inner, inner)):
            self.assertIs(shows_none(TRIO, ALL, 3, nested(make, 39, leaf)), False)

    def test_very_deep_ones(self):
        # What was told may be handed in whatever its size: a tree far deeper than Python's own calls go.
        leaf = ("stack", (0,))
        tree = nested(lambda inner: ("pair", 0, 1, inner, leaf), 5000, leaf)
        self.assertIs(shows_none(TRIO, ALL, 3, tree), True)
        self.assertIs(shows_none(TRIO, ALL, 4, tree), False)


class DrawnTreesTest(unittest.TestCase):
    def test_word_by_word(self):
        right = 0
        frames = [frame for frame in made_frames(400, 4, 4, 3) if frame[0]]
        for seed, (things, pairs) in enumerate(frames):
            for more in range(6):
                tree = drawn_tree(Dice(7 * seed + 10000 * more), len(things), pairs, 4)
                for limit in (-1, 0, 1, 3, 6):
                    told = shows_none(things, pairs, limit, tree)
                    self.assertIs(told, slow_shows(things, pairs, limit, tree), (things, pairs, limit, tree))
                    if told:
                        self.assertIs(has_placing(things, pairs, limit), False, (things, pairs, limit, tree))
                        right += 1
        self.assertGreater(right, 300)

    def test_what_is_handed_in_stays(self):
        odd = ("pair", 0, 1, [("stack", [0])], {"a": [1]})
        before = copy.deepcopy(odd)
        pairs = list(ALL)
        self.assertIs(shows_none(TRIO, pairs, 3, odd), False)
        self.assertIs(shows_none(TRIO, pairs, 12, SIX), True)
        self.assertEqual((odd, pairs), (before, ALL))


if __name__ == "__main__":
    unittest.main()
