import unittest

from gapshelf.deeds import height_for, put_writes, seat_of, take_writes
from gapshelf.errors import Full, NoKey

from helper import (
    BOUNDS, GREAT, all_shelves, assert_own_list, many_of, many_shelves, new_keys_of, numbers_from, put_into, shelf_at,
    size_of, taken_from, told_cap, told_height, told_put, told_seat, walk_deed,
)


def shelves_with_heights():
    """Bounds, a height and a straight shelf, of each of the bounds and each height up to its top."""
    return [
        (bounds, height, shelf)
        for bounds in BOUNDS for height in range(bounds[0] + 1) for shelf in many_shelves(bounds, height)
    ]


class SeatTest(unittest.TestCase):
    SHELF = [(), (10, 1), (), (20, 2), (30, 3), (), (), (40, 4), ()]

    def test_on_an_empty_shelf(self):
        for shelf in ([], [()], [()] * 8):
            for key in (0, 5, -GREAT, GREAT):
                self.assertEqual(seat_of(list(shelf), key), 0)

    def test_a_key_lesser_than_all(self):
        for key in (9, 0, -1, -GREAT):
            self.assertEqual(seat_of(list(self.SHELF), key), 0)
        self.assertEqual(seat_of([(), (), (5, 5)], 4), 0)

    def test_a_key_greater_than_all(self):
        for key in (41, 100, GREAT):
            self.assertEqual(seat_of(list(self.SHELF), key), 7)
        self.assertEqual(seat_of([(1, 1), (2, 2)], 3), 1)

    def test_a_key_between_two(self):
        for key, seat in ((11, 1), (15, 1), (19, 1), (21, 3), (29, 3), (31, 4), (39, 4)):
            with self.subTest(key=key):
                self.assertEqual(seat_of(list(self.SHELF), key), seat)

    def test_a_key_that_is_there(self):
        for key, seat in ((10, 0), (20, 1), (30, 3), (40, 4)):
            with self.subTest(key=key):
                self.assertEqual(seat_of(list(self.SHELF), key), seat)

    def test_keys_below_zero_and_great_ones(self):
        shelf = [(-GREAT, 0), (), (-5, 9), (0, 0), (), (GREAT - 1, 1), (GREAT, 0)]
        for key, seat in ((-GREAT, 0), (1 - GREAT, 0), (-5, 0), (-4, 2), (0, 2), (1, 3), (GREAT - 1, 3), (GREAT, 5)):
            with self.subTest(key=key):
                self.assertEqual(seat_of(list(shelf), key), seat)

    def test_worths_do_not_count(self):
        self.assertEqual(seat_of([(1, 50), (2, -50), (), (3, 0)], 3), 1)

    def test_all_small_shelves(self):
        for shelf in all_shelves(6):
            for key in range(5, 75, 5):
                self.assertEqual(seat_of(list(shelf), key), told_seat(shelf, key), (shelf, key))


class HeightTest(unittest.TestCase):
    BOUNDS = (4, 6, 1)  # caps 6, 10, 16, 24, 32

    def assert_height(self, height, places, key, level):
        with self.subTest(height=height, places=places, key=key):
            shelf = shelf_at(size_of(self.BOUNDS, height), places)
            told = height_for(self.BOUNDS, height, shelf, key)
            self.assertEqual(told, level)
            self.assertIs(told.__class__, int)

    def test_the_stretch_of_height_zero_has_room(self):
        for height in range(5):
            size = size_of(self.BOUNDS, height)
            self.assert_height(height, [], 5, 0)
            self.assert_height(height, [0], 15, 0)
            self.assert_height(height, range(5), 5, 0)
            self.assert_height(height, range(5), 55, 0)
            self.assert_height(height, range(size - 5, size), 55, 0)

    def test_only_greater_ones_have_room(self):
        for many, level in ((6, 1), (7, 1), (9, 1), (10, 2), (12, 2), (15, 2), (16, 3), (23, 3), (24, 4), (31, 4)):
            for height in range(level, 5):
                self.assert_height(height, range(many), 5, level)

    def test_only_greater_ones_have_room_at_the_end(self):
        for many, level in ((6, 1), (7, 1), (9, 1), (10, 2), (12, 2), (15, 2), (16, 3), (23, 3), (24, 4), (31, 4)):
            for height in range(level, 5):
                size = size_of(self.BOUNDS, height)
                self.assert_height(height, range(size - many, size), 10 * many + 5, level)

    def test_in_the_midst(self):
        self.assert_height(4, range(36, 42), 35, 1)
        self.assert_height(4, range(36, 46), 35, 2)
        self.assert_height(4, range(32, 48), 65, 3)
        self.assert_height(4, range(36, 60), 125, 2)

    def test_the_board_of_the_seat_counts_not_that_of_the_next_thing(self):
        self.assert_height(1, [0, 6, 7, 8, 9, 10, 11], 15, 0)
        self.assert_height(1, [0, 1, 2, 3, 4, 5, 6], 65, 1)
        self.assert_height(1, [6, 7, 8, 9, 10, 11], 5, 0)

    def test_the_least_one_counts_though_greater_ones_have_no_room(self):
        self.assert_height(1, [0, 1, 2, 3, 4] + list(range(6, 11)), 5, 0)
        self.assert_height(2, list(range(6)) + [6, 7, 8] + list(range(12, 24)), 5, 1)

    def test_every_height_can_be_needed_of_each_bounds(self):
        for bounds in BOUNDS:
            for height in range(bounds[0] + 1):
                size = size_of(bounds, height)
                for level in range(height + 1):
                    with self.subTest(bounds=bounds, height=height, level=level):
                        many = told_cap(bounds, level) - 1
                        self.assertEqual(height_for(bounds, height, shelf_at(size, range(many)), 5), level)

    def test_many_shelves(self):
        for bounds, height, shelf in shelves_with_heights():
            if many_of(shelf) < told_cap(bounds, height):
                for key in new_keys_of(shelf) + [thing[0] for thing in shelf if thing]:
                    told = height_for(bounds, height, list(shelf), key)
                    self.assertEqual(told, told_height(bounds, height, shelf, key), (bounds, height, shelf, key))


class PutOfAKeyThatIsThereTest(unittest.TestCase):
    def test_one_write(self):
        shelf = [(10, 1), (), (20, 2), (), (), (), (30, 3), ()]
        bounds = (2, 8, 2)
        self.assertEqual(put_writes(bounds, 0, list(shelf), 10, 7), [(0, (10, 7))])
        self.assertEqual(put_writes(bounds, 0, list(shelf), 20, -GREAT), [(2, (20, -GREAT))])
        self.assertEqual(put_writes(bounds, 0, list(shelf), 30, 0), [(6, (30, 0))])

    def test_the_same_worth(self):
        self.assertEqual(put_writes((0, 2, 1), 0, [(), (3, 7)], 3, 7), [(1, (3, 7))])

    def test_where_the_shelf_holds_its_cap_or_more(self):
        for bounds in BOUNDS:
            for height in range(bounds[0] + 1):
                size = size_of(bounds, height)
                cap = told_cap(bounds, height)
                for many in sorted({cap - 1, cap, min(cap + 1, size), size}):
                    self.assert_new_worths(bounds, height, shelf_at(size, range(many)))
                    self.assert_new_worths(bounds, height, shelf_at(size, range(size - many, size)))

    def assert_new_worths(self, bounds, height, shelf):
        for place, thing in enumerate(shelf):
            if thing:
                with self.subTest(bounds=bounds, height=height, thing=thing):
                    writes = put_writes(bounds, height, list(shelf), thing[0], 77)
                    self.assertEqual(writes, [(place, (thing[0], 77))])


class PutOfANewKeyTest(unittest.TestCase):
    def test_on_an_empty_shelf(self):
        for bounds in BOUNDS:
            for height in range(bounds[0] + 1):
                with self.subTest(bounds=bounds, height=height):
                    shelf = [()] * size_of(bounds, height)
                    self.assertEqual(put_writes(bounds, height, shelf, 5, 50), [(0, (5, 50))])
                    self.assertEqual(put_writes(bounds, height, shelf, -GREAT, GREAT), [(0, (-GREAT, GREAT))])

    def test_one_behind_another(self):
        bounds = (2, 8, 2)
        shelf = [(5, 50), (), (), (), (), (), (), ()]
        self.assertEqual(put_writes(bounds, 0, shelf, 7, 70), [(4, (7, 70))])
        shelf = [(5, 50), (), (), (), (7, 70), (), (), ()]
        self.assertEqual(put_writes(bounds, 0, shelf, 6, 60), [(5, (7, 70)), (4, ()), (2, (6, 60))])
        shelf = [(5, 50), (), (6, 60), (), (), (7, 70), (), ()]
        moves = [(6, (7, 70)), (5, ()), (4, (6, 60)), (2, ()), (2, (5, 50)), (0, ())]
        self.assertEqual(put_writes(bounds, 0, shelf, 1, 10), moves + [(0, (1, 10))])

    def test_on_a_full_board_with_room_behind_it(self):
        bounds = (1, 3, 1)
        shelf = [(10, 1), (20, 2), (30, 3), (), (), ()]
        moves = [(4, (30, 3)), (2, ()), (3, (20, 2)), (1, ()), (1, (10, 1)), (0, ())]
        self.assertEqual(put_writes(bounds, 1, shelf, 5, 0), moves + [(0, (5, 0))])
        moves = [(4, (30, 3)), (2, ()), (3, (20, 2)), (1, ())]
        self.assertEqual(put_writes(bounds, 1, shelf, 15, 0), moves + [(1, (15, 0))])
        self.assertEqual(put_writes(bounds, 1, shelf, 25, 0), [(4, (30, 3)), (2, ()), (3, (25, 0))])
        self.assertEqual(put_writes(bounds, 1, shelf, 35, 0), [(3, (30, 3)), (2, ()), (4, (35, 0))])

    def test_on_a_full_board_with_room_ahead_of_it(self):
        bounds = (1, 3, 1)
        shelf = [(), (), (), (10, 1), (20, 2), (30, 3)]
        moves = [(0, (10, 1)), (3, ()), (3, (20, 2)), (4, ()), (4, (30, 3)), (5, ())]
        self.assertEqual(put_writes(bounds, 1, shelf, 15, 0), moves + [(1, (15, 0))])
        moves = [(0, (10, 1)), (3, ()), (1, (20, 2)), (4, ()), (3, (30, 3)), (5, ())]
        self.assertEqual(put_writes(bounds, 1, shelf, 35, 0), moves + [(4, (35, 0))])

    def test_a_key_lesser_than_all_goes_to_the_first_board(self):
        shelf = [(), (), (), (10, 1), (20, 2), (30, 3)]
        self.assertEqual(put_writes((1, 3, 1), 1, shelf, 5, 0), [(0, (5, 0))])

    def test_moves_both_ways(self):
        bounds = (0, 8, 2)
        shelf = [(10, 1), (20, 2), (30, 3), (), (), (), (), (40, 4)]
        moves = [(4, (30, 3)), (2, ()), (6, (40, 4)), (7, ())]
        self.assertEqual(put_writes(bounds, 0, shelf, 25, 5), moves + [(3, (25, 5))])

    def test_only_the_stretch_is_evened(self):
        bounds = (2, 4, 1)
        shelf = [(10, 1), (), (), (20, 2)] + [(30, 3), (40, 4), (50, 5), ()] + [(60, 6), (), (), (70, 7)] + [()] * 4
        self.assertEqual(put_writes(bounds, 2, shelf, 45, 0), [(7, (50, 5)), (6, ()), (6, (45, 0))])

    def test_a_stretch_begun_behind_the_first_place(self):
        bounds = (2, 4, 1)
        shelf = [()] * 8 + [(10, 1), (20, 2), (30, 3), (40, 4)] + [()] * 4
        moves = [(14, (40, 4)), (11, ()), (12, (30, 3)), (10, ())]
        self.assertEqual(put_writes(bounds, 2, shelf, 25, 0), moves + [(11, (25, 0))])

    def test_the_words_of_the_promise_on_all_small_shelves(self):
        for bounds, height in (((0, 6, 3), 0), ((1, 3, 1), 1), ((1, 4, 1), 1), ((2, 4, 1), 1)):
            for shelf in all_shelves(size_of(bounds, height)):
                self.assert_puts(bounds, height, shelf)

    def test_the_words_of_the_promise_on_many_shelves(self):
        for bounds, height, shelf in shelves_with_heights():
            self.assert_puts(bounds, height, shelf)

    def assert_puts(self, bounds, height, shelf):
        if many_of(shelf) < told_cap(bounds, height):
            for key in new_keys_of(shelf):
                writes = put_writes(bounds, height, list(shelf), key, -7)
                self.assertEqual(writes, told_put(bounds, height, shelf, key, -7), (bounds, height, shelf, key))


class FullTest(unittest.TestCase):
    def assert_full(self, bounds, height, shelf):
        as_it_was = list(shelf)
        for key in new_keys_of(shelf):
            with self.subTest(bounds=bounds, height=height, key=key):
                with self.assertRaises(Full):
                    put_writes(bounds, height, shelf, key, 1)
                self.assertEqual(shelf, as_it_was)

    def assert_room(self, bounds, height, shelf):
        for key in new_keys_of(shelf):
            with self.subTest(bounds=bounds, height=height, key=key):
                self.assertEqual(put_writes(bounds, height, shelf, key, 1)[-1][1], (key, 1))

    def fillings(self, size, many):
        """So many things at the begin, at the end, spread, and half of them at each end."""
        half = many // 2
        ends = list(range(half)) + list(range(size - many + half, size))
        spread = [number * size // many for number in range(many)]
        return [shelf_at(size, places) for places in (range(many), range(size - many, size), spread, ends)]

    def test_at_the_cap_and_one_thing_less_and_more(self):
        for bounds in BOUNDS:
            for height in range(bounds[0] + 1):
                size = size_of(bounds, height)
                cap = told_cap(bounds, height)
                for shelf in self.fillings(size, cap - 1):
                    self.assert_room(bounds, height, shelf)
                for many in sorted({cap, min(cap + 1, size), size}):
                    for shelf in self.fillings(size, many):
                        self.assert_full(bounds, height, shelf)

    def test_full_though_the_board_of_the_seat_has_room(self):
        self.assert_full((1, 3, 1), 1, [(10, 1), (), (), (20, 2), (30, 3), (40, 4)])
        self.assert_full((1, 3, 1), 1, [(10, 1), (20, 2), (30, 3), (40, 4), (), ()])
        self.assert_full((1, 6, 2), 1, [()] * 4 + [(10, 1), (20, 2)] + [(key, 3) for key in range(30, 90, 10)])

    def test_written_out(self):
        bounds = (1, 3, 1)
        self.assert_full(bounds, 0, [(10, 1), (20, 2), (30, 3)])
        self.assert_room(bounds, 0, [(10, 1), (), (30, 3)])
        self.assert_full(bounds, 1, [(10, 1), (20, 2), (), (30, 3), (40, 4), ()])
        self.assert_room(bounds, 1, [(10, 1), (20, 2), (), (30, 3), (), ()])


class TakeTest(unittest.TestCase):
    def test_one_write(self):
        shelf = [(), (10, 1), (), (20, 2), (30, 3), ()]
        self.assertEqual(take_writes(shelf, 10), [(1, ())])
        self.assertEqual(take_writes(shelf, 20), [(3, ())])
        self.assertEqual(take_writes(shelf, 30), [(4, ())])
        self.assertEqual(take_writes([(-GREAT, 3), (GREAT, 3)], GREAT), [(1, ())])
        self.assertEqual(take_writes([(-GREAT, 3), (GREAT, 3)], -GREAT), [(0, ())])
        self.assertEqual(take_writes([(0, 0)], 0), [(0, ())])

    def test_a_key_that_is_not_there(self):
        shelf = [(), (10, 1), (), (20, 25), (30, 3), ()]
        for key in (0, 1, 3, 9, 11, 15, 25, 31, GREAT, -GREAT, -10):
            with self.subTest(key=key):
                with self.assertRaises(NoKey):
                    take_writes(shelf, key)
                self.assertEqual(shelf, [(), (10, 1), (), (20, 25), (30, 3), ()])

    def test_on_an_empty_shelf(self):
        for shelf in ([], [()], [()] * 8):
            for key in (0, 1, -1, GREAT):
                with self.assertRaises(NoKey):
                    take_writes(list(shelf), key)

    def test_all_small_shelves(self):
        for shelf in all_shelves(6):
            for key in new_keys_of(shelf):
                with self.assertRaises(NoKey):
                    take_writes(list(shelf), key)
            for place, thing in enumerate(shelf):
                if thing:
                    self.assertEqual(take_writes(list(shelf), thing[0]), [(place, ())])


class WriteByWriteTest(unittest.TestCase):
    def assert_deeds(self, bounds, height, shelf):
        rows = [thing for thing in shelf if thing]
        keys = [thing[0] for thing in rows]
        for key in keys:
            walk_deed(self, shelf, take_writes(list(shelf), key), taken_from(rows, key))
            walk_deed(self, shelf, put_writes(bounds, height, list(shelf), key, 99), put_into(rows, key, 99))
        if len(rows) < told_cap(bounds, height):
            for key in new_keys_of(shelf):
                walk_deed(self, shelf, put_writes(bounds, height, list(shelf), key, 99), put_into(rows, key, 99))

    def test_all_small_shelves(self):
        for bounds, height in (((0, 5, 2), 0), ((1, 3, 1), 1), ((1, 4, 2), 0), ((1, 4, 1), 1)):
            for shelf in all_shelves(size_of(bounds, height)):
                self.assert_deeds(bounds, height, shelf)

    def test_shelves_of_every_height(self):
        for bounds in ((2, 4, 1), (3, 5, 1), (2, 8, 2)):
            for height in range(bounds[0] + 1):
                for shelf in many_shelves(bounds, height):
                    self.assert_deeds(bounds, height, shelf)

    def test_rows_of_deeds(self):
        for bounds in BOUNDS[:-1]:
            for height in range(bounds[0] + 1):
                cap = told_cap(bounds, height)
                for seed, keys in ((1, cap + 3), (2, 3 * cap), (3, 10 ** 6)):
                    with self.subTest(bounds=bounds, height=height, seed=seed):
                        self.assert_row_of_deeds(bounds, height, numbers_from(seed, keys), 3 * cap + 20)

    def test_keys_that_rise_and_keys_that_fall(self):
        for bounds in BOUNDS[:-1]:
            for height in range(bounds[0] + 1):
                many = told_cap(bounds, height) + 2
                with self.subTest(bounds=bounds, height=height):
                    self.put_all(bounds, height, range(many))
                    self.put_all(bounds, height, range(many, 0, -1))

    def assert_row_of_deeds(self, bounds, height, numbers, many):
        shelf = [()] * size_of(bounds, height)
        for count in range(many):
            key = next(numbers)
            if next(numbers) % 4 == 0:
                shelf = self.take_one(shelf, key)
            else:
                shelf = self.put_one(bounds, height, shelf, key, count)

    def put_all(self, bounds, height, keys):
        shelf = [()] * size_of(bounds, height)
        for key in keys:
            shelf = self.put_one(bounds, height, shelf, key, -key)
        self.assertEqual(many_of(shelf), told_cap(bounds, height))

    def take_one(self, shelf, key):
        rows = [thing for thing in shelf if thing]
        if key in dict(rows):
            return walk_deed(self, shelf, take_writes(list(shelf), key), taken_from(rows, key))
        with self.assertRaises(NoKey):
            take_writes(list(shelf), key)
        return shelf

    def put_one(self, bounds, height, shelf, key, worth):
        rows = [thing for thing in shelf if thing]
        if key in dict(rows) or len(rows) < told_cap(bounds, height):
            writes = put_writes(bounds, height, list(shelf), key, worth)
            return walk_deed(self, shelf, writes, put_into(rows, key, worth))
        with self.assertRaises(Full):
            put_writes(bounds, height, list(shelf), key, worth)
        return shelf


class KindsTest(unittest.TestCase):
    def test_writes_are_tuples_in_a_list(self):
        shelf = [(10, 1), (20, 2), (30, 3), (), (), ()]
        for told in (
            put_writes((1, 3, 1), 1, shelf, 5, 0), put_writes((1, 3, 1), 1, shelf, 10, 0), take_writes(shelf, 20),
        ):
            self.assertIs(told.__class__, list)
            for write in told:
                self.assertIs(write.__class__, tuple)
                self.assertEqual(len(write), 2)
                self.assertIs(write[0].__class__, int)
                self.assertIs(write[1].__class__, tuple)

    def test_a_seat_is_a_whole_number(self):
        for shelf in ([()], [(1, 1), (2, 2)]):
            self.assertIs(seat_of(shelf, 3).__class__, int)


class NothingChangedOrKeptTest(unittest.TestCase):
    def test_writes_of_puts_and_takes(self):
        for bounds, height, shelf in shelves_with_heights():
            if many_of(shelf) < told_cap(bounds, height):
                for key in new_keys_of(shelf)[:3]:
                    ask = self.put_asker(bounds, height, key)
                    assert_own_list(self, ask, [list(shelf)], (0, (98, 99)))
            for thing in [thing for thing in shelf if thing][:3]:
                ask = self.put_asker(bounds, height, thing[0])
                assert_own_list(self, ask, [list(shelf)], (0, (98, 99)))
                ask = self.take_asker(thing[0])
                assert_own_list(self, ask, [list(shelf)], (0, (98, 99)))

    def put_asker(self, bounds, height, key):
        return lambda shelf: put_writes(bounds, height, shelf, key, 7)

    def take_asker(self, key):
        return lambda shelf: take_writes(shelf, key)

    def test_seats_and_heights(self):
        for bounds, height, shelf in shelves_with_heights():
            if many_of(shelf) < told_cap(bounds, height):
                as_it_was = list(shelf)
                seat_of(shelf, 15)
                height_for(bounds, height, shelf, 15)
                self.assertEqual(shelf, as_it_was)


if __name__ == "__main__":
    unittest.main()
