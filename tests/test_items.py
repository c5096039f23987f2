import unittest

from frameshare.items import is_row, needs_of, rows_in, sides_of, write_of

ROW = ("row", (2, 0), 1)
QUIET = ("row", (), None)
CALL = ("call", 0, (1, 3), 2)
HUSH = ("call", 4, (), None)
GIVE = ("give", 5)
BACK = ("back", 5)
EITHER = ("either", (ROW, GIVE), (CALL,))
ROUND = ("round", (EITHER, BACK))


class ItemsTest(unittest.TestCase):
    def test_which_items_are_rows(self):
        for item in (ROW, QUIET, CALL, HUSH, GIVE, BACK):
            self.assertIs(is_row(item), True, item)
        for item in (EITHER, ROUND):
            self.assertIs(is_row(item), False, item)

    def test_sides(self):
        self.assertEqual(sides_of(EITHER), ((ROW, GIVE), (CALL,)))
        self.assertEqual(sides_of(ROUND), ((EITHER, BACK),))

    def test_rows_as_they_stand(self):
        self.assertEqual(rows_in(()), [])
        self.assertEqual(rows_in((QUIET, ROUND, HUSH)), [QUIET, ROW, GIVE, CALL, BACK, HUSH])

    def test_needs(self):
        told = [needs_of(row) for row in (ROW, QUIET, CALL, HUSH, GIVE, BACK)]
        self.assertEqual(told, [[2, 0], [], [1, 3], [], [5], []])

    def test_writes(self):
        told = [write_of(row) for row in (ROW, QUIET, CALL, HUSH, GIVE, BACK)]
        self.assertEqual(told, [1, None, 2, None, None, None])


if __name__ == "__main__":
    unittest.main()
