import unittest

from frameshare.least import least
from frameshare.papercheck import shows_none
from frameshare.papers import paper_of
from tests.samples import all_pairs, made_frames
from tests.slow import slow_least, slow_shows

GREAT = 10 ** 10 - 1
RING = [(0, 1), (0, 4), (1, 2), (2, 3), (3, 4)]


def kinds_in(tree):
    """The kinds of all that a tree holds."""
    if isinstance(tree, tuple):
        return {tuple}.union(*[kinds_in(part) for part in tree])
    return {type(tree)}


class PaperTest(unittest.TestCase):
    def check(self, things, pairs, slow=True):
        tree = paper_of(things, pairs)
        low = slow_least(things, pairs) if slow else least(things, pairs)[0]
        for limit in (low - 1, low - 2, low // 2 - 1, 0, -1, -10):
            if limit < low:
                self.assertIs(shows_none(things, pairs, limit, tree), True, (things, pairs, limit))
        self.assertIs(shows_none(things, pairs, low, tree), False, (things, pairs))
        self.assertIs(shows_none(things, pairs, low + 1, tree), False, (things, pairs))
        return tree

    def test_none_and_one(self):
        self.check((), [])
        self.check(((1, 1),), [])
        self.check(((5, 8),), [])
        self.check(((GREAT, GREAT),), [], False)

    def test_no_pairs(self):
        self.check(((4, 4), (6, 2), (3, 1)), [])
        self.check(tuple((t + 1, 9 - t) for t in range(8)), [])

    def test_all_pairs(self):
        self.check(((4, 4), (6, 2), (3, 1)), all_pairs(3))
        self.check(((1, 1), (8, 8)), all_pairs(2))
        self.check(((3, 4), (5, 4)), all_pairs(2))

    def test_rings(self):
        self.check(((1, 1),) * 5, RING)
        self.check(((2, 1), (2, 1), (2, 1), (2, 1), (1, 1)), RING)
        self.check(((2, 2), (3, 1), (1, 4), (2, 3), (3, 2)), RING)
        eight = [(t, t + 1) for t in range(7)] + [(0, 7)]
        self.check(((1, 1),) * 8, sorted(eight))
        self.check(((3, 1),) * 7, sorted([(t, t + 1) for t in range(6)] + [(0, 6)]), False)

    def test_drawn_ones(self):
        for things, pairs in made_frames(300, 5, 4, 4):
            tree = self.check(things, pairs)
            low = slow_least(things, pairs)
            self.assertIs(slow_shows(things, pairs, low - 1, tree), True)

    def test_eight_drawn_ones(self):
        for things, pairs in made_frames(60, 8, 10 ** 10 - 1, 10 ** 10 - 1) + made_frames(60, 8, 12, 12):
            self.check(things, pairs, False)

    def test_eight_alike_ones_in_all_pairs(self):
        tree = self.check(((1, 1),) * 8, all_pairs(8), False)
        # Each order of the eight needs a stack of its own.
        left, stacks = [tree], set()
        while left:
            part = left.pop()
            if part[0] == "pair":
                left.extend(part[3:])
            if part[0] == "stack":
                stacks.add(part[1])
        self.assertEqual(len(stacks), 40320)

    def test_eight_of_a_great_border_in_all_pairs(self):
        self.check(((1, GREAT),) * 8, all_pairs(8), False)

    def test_eight_unlike_ones_in_all_pairs(self):
        self.check(tuple((t + 1, 9 - t) for t in range(8)), all_pairs(8), False)
        self.check(((5, 7), (5, 11), (5, 2), (5, 3), (5, 5), (5, 1), (5, 4), (5, 13)), all_pairs(8), False)

    def test_eight_across_two_halves(self):
        pairs = [(t, u) for t, u in all_pairs(8) if t < 4 <= u]
        self.check(((3, 1), (5, 1), (1, 1), (7, 1), (9, 1), (2, 1), (4, 1), (1, 1)), pairs, False)
        self.check(((3, 4), (5, 4), (1, 2), (7, 1), (9, 8), (2, 2), (4, 4), (1, 1)), pairs, False)

    def test_kinds(self):
        for things, pairs in made_frames(40, 6):
            self.assertLessEqual(kinds_in(paper_of(things, pairs)), {tuple, str, int})

    def test_the_same_question_is_told_the_same(self):
        for things, pairs in made_frames(40, 6):
            before = list(pairs)
            tree = paper_of(things, pairs)
            self.assertEqual(paper_of(things, list(pairs)), tree)
            self.assertEqual(pairs, before)
            pairs.clear()
            self.assertEqual(paper_of(things, before), tree)


if __name__ == "__main__":
    unittest.main()
