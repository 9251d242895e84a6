import unittest

from gapshelf.coins import excess_of, over_of
from gapshelf.deeds import put_writes, take_writes
from gapshelf.shelves import done

from helper import (
    BOUNDS, all_shelves, many_of, many_shelves, new_keys_of, shelf_at, size_of, told_cap, told_excess, told_over,
)


def shelf_of_boards(width, boards):
    """Of each board, how many of its first places are filled."""
    places = [number * width + place for number, many in enumerate(boards) for place in range(many)]
    return shelf_at(width * len(boards), places)


class ExcessTest(unittest.TestCase):
    BOUNDS = (4, 6, 1)  # calms 5, 8, 12, 16

    def assert_excess(self, boards, excess):
        height = (1, 2, 4, 8, 16).index(len(boards))
        with self.subTest(boards=boards):
            told = excess_of(self.BOUNDS, height, shelf_of_boards(6, boards))
            self.assertEqual(told, excess)
            self.assertIs(told.__class__, int)

    def test_empty_shelves(self):
        for bounds in BOUNDS:
            for height in range(bounds[0] + 1):
                self.assertEqual(excess_of(bounds, height, [()] * size_of(bounds, height)), 0)

    def test_none_at_height_zero(self):
        for bounds in BOUNDS:
            for many in range(bounds[1] + 1):
                self.assertEqual(excess_of(bounds, 0, shelf_at(bounds[1], range(many))), 0)

    def test_height_one(self):
        self.assert_excess([5, 0], 0)
        self.assert_excess([5, 5], 0)
        self.assert_excess([6, 0], 1)
        self.assert_excess([0, 6], 1)
        self.assert_excess([6, 5], 1)
        self.assert_excess([6, 6], 2)

    def test_height_two(self):
        self.assert_excess([4, 4, 4, 4], 0)
        self.assert_excess([5, 3, 3, 5], 0)
        self.assert_excess([5, 4, 0, 0], 1)
        self.assert_excess([0, 5, 5, 0], 0)
        self.assert_excess([0, 6, 6, 0], 2)
        self.assert_excess([6, 6, 0, 0], 2 + 4)
        self.assert_excess([0, 0, 6, 3], 1 + 1)
        self.assert_excess([6, 6, 6, 6], 4 + 8)

    def test_height_three(self):
        self.assert_excess([3] * 8, 0)
        self.assert_excess([4, 4, 4, 4, 0, 0, 0, 0], 4)
        self.assert_excess([0, 0, 0, 0, 4, 4, 3, 2], 1)
        self.assert_excess([0, 0, 6, 6, 6, 6, 0, 0], 4 + 8)
        self.assert_excess([6] * 4 + [0] * 4, 4 + 8 + 12)
        self.assert_excess([6] * 8, 8 + 16 + 24)

    def test_height_four(self):
        self.assert_excess([2] * 16, 0)
        self.assert_excess([3] * 8 + [0] * 8, 8)
        self.assert_excess([0] * 15 + [6], 1)
        self.assert_excess([0] * 14 + [6, 6], 2 + 4)
        self.assert_excess([0] * 8 + [6] * 4 + [0] * 4, 4 + 8 + 12 + 8)
        self.assert_excess([6] * 8 + [0] * 8, 8 + 16 + 24 + 32)
        self.assert_excess([6] * 16, 16 + 32 + 48 + 64)

    def test_a_stretch_below_its_calm_takes_nothing_off(self):
        self.assert_excess([6, 0, 0, 0], 1)
        self.assert_excess([6, 6, 0, 0, 0, 0, 0, 0], 2 + 4)

    def test_where_in_a_stretch_the_things_lie_does_not_count(self):
        for places in ([6, 7, 8, 9, 10, 11], [0, 1, 2, 3, 4, 5]):
            self.assertEqual(excess_of(self.BOUNDS, 1, shelf_at(12, places)), 1)
        for places in ([5, 6, 7, 8, 9, 10], [1, 2, 3, 4, 5, 6]):
            self.assertEqual(excess_of(self.BOUNDS, 1, shelf_at(12, places)), 0)

    def test_other_bounds(self):
        self.assertEqual(excess_of((2, 8, 2), 2, shelf_of_boards(8, [8, 3, 7, 0])), 2 + 1 + 3)
        self.assertEqual(excess_of((4, 20, 3), 1, shelf_of_boards(20, [20, 18])), 3 + 1)

    def test_the_words_of_the_promise_on_all_small_shelves(self):
        for bounds, height in (((1, 3, 1), 0), ((1, 3, 1), 1), ((2, 4, 1), 1), ((3, 5, 1), 1)):
            for shelf in all_shelves(size_of(bounds, height)):
                told = excess_of(bounds, height, list(shelf))
                self.assertEqual(told, told_excess(bounds, height, shelf), (bounds, height, shelf))

    def test_the_words_of_the_promise_on_many_shelves(self):
        for bounds in BOUNDS:
            for height in range(bounds[0] + 1):
                for shelf in many_shelves(bounds, height):
                    told = excess_of(bounds, height, list(shelf))
                    self.assertEqual(told, told_excess(bounds, height, shelf), (bounds, height, shelf))


class OverTest(unittest.TestCase):
    BOUNDS = (4, 6, 1)  # caps 6, 10, 16, 24, 32

    def test_empty_shelves(self):
        for bounds in BOUNDS:
            for height in range(bounds[0] + 1):
                self.assertEqual(over_of(bounds, height, [()] * size_of(bounds, height)), 0)

    def test_all_that_it_holds_at_height_zero(self):
        for bounds in BOUNDS:
            for many in range(bounds[1] + 1):
                self.assertEqual(over_of(bounds, 0, shelf_at(bounds[1], range(many))), many)
                self.assertEqual(over_of(bounds, 0, shelf_at(bounds[1], range(bounds[1] - many, bounds[1]))), many)

    def test_what_lies_beyond_the_cap_of_the_height_below(self):
        for height, cap in ((1, 6), (2, 10), (3, 16), (4, 24)):
            size = size_of(self.BOUNDS, height)
            for many in (0, 1, cap - 1, cap):
                self.assertEqual(over_of(self.BOUNDS, height, shelf_at(size, range(many))), 0)
            for many in (cap + 1, cap + 2, size):
                self.assertEqual(over_of(self.BOUNDS, height, shelf_at(size, range(many))), many - cap)
                self.assertEqual(over_of(self.BOUNDS, height, shelf_at(size, range(size - many, size))), many - cap)

    def test_full_boards_and_empty_ones(self):
        self.assertEqual(over_of(self.BOUNDS, 1, shelf_of_boards(6, [6, 0])), 0)
        self.assertEqual(over_of(self.BOUNDS, 1, shelf_of_boards(6, [1, 6])), 1)
        self.assertEqual(over_of(self.BOUNDS, 2, shelf_of_boards(6, [0, 6, 0, 6])), 2)
        self.assertEqual(over_of(self.BOUNDS, 3, shelf_of_boards(6, [6, 0, 6, 0, 0, 0, 0, 6])), 2)
        self.assertEqual(over_of(self.BOUNDS, 4, shelf_of_boards(6, [6] * 8 + [0] * 8)), 24)
        self.assertEqual(over_of(self.BOUNDS, 4, shelf_of_boards(6, [6] * 16)), 72)

    def test_the_words_of_the_promise(self):
        for bounds in BOUNDS:
            for height in range(bounds[0] + 1):
                for shelf in many_shelves(bounds, height):
                    told = over_of(bounds, height, list(shelf))
                    self.assertEqual(told, told_over(bounds, height, shelf), (bounds, height, shelf))
                    self.assertIs(told.__class__, int)


class PaidForTest(unittest.TestCase):
    def test_a_put_of_a_new_key_pays_for_its_moves(self):
        for bounds in BOUNDS:
            for height in range(bounds[0] + 1):
                for shelf in many_shelves(bounds, height):
                    if many_of(shelf) < told_cap(bounds, height):
                        for key in new_keys_of(shelf):
                            self.assert_paid(bounds, height, shelf, key)

    def assert_paid(self, bounds, height, shelf, key):
        top, width, step = bounds
        writes = put_writes(bounds, height, list(shelf), key, 0)
        moves = len(writes) // 2
        behind = excess_of(bounds, height, done(shelf, writes))
        ahead = excess_of(bounds, height, list(shelf))
        paid = step * width + 2 * width * top + 2 * width * ahead
        self.assertLessEqual(step * moves + 2 * width * behind, paid, (bounds, height, shelf, key))

    def test_a_take_adds_no_excess(self):
        for bounds in BOUNDS:
            for height in range(bounds[0] + 1):
                for shelf in many_shelves(bounds, height):
                    ahead = excess_of(bounds, height, list(shelf))
                    for thing in [thing for thing in shelf if thing][:5]:
                        behind = done(shelf, take_writes(list(shelf), thing[0]))
                        self.assertLessEqual(excess_of(bounds, height, behind), ahead)


class NothingChangedTest(unittest.TestCase):
    def test_shelves_are_as_they_were(self):
        for bounds in BOUNDS:
            for height in range(bounds[0] + 1):
                for shelf in many_shelves(bounds, height):
                    as_it_was = list(shelf)
                    told = (excess_of(bounds, height, shelf), over_of(bounds, height, shelf))
                    self.assertEqual(shelf, as_it_was)
                    self.assertEqual((excess_of(bounds, height, shelf), over_of(bounds, height, shelf)), told)


if __name__ == "__main__":
    unittest.main()
