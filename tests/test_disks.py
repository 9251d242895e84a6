import itertools
import unittest

from gapshelf.disks import blank_disk, disk_put, disk_take, is_disk, shelf_on, written
from gapshelf.errors import Full, NoKey
from gapshelf.shelves import is_sound

from helper import (
    BOUNDS, GREAT, copy_of, disk_with, full_disks, many_disks, new_keys_of, put_into, shelf_at, size_of, taken_from,
    told_cap, told_disk_put, told_disk_take, told_growing, told_rows, told_shelf, told_written, walk_disk,
)

SMALL = (1, 3, 1)  # areas of 6 places, shelves of 3 and 6 places, caps 3 and 4

# No places at all, though some look like one.
NO_PLACES = (
    (1,), (1, 2, 3), (1, 2, 3, 4), True, False, None, 0, 7, [], [1, 2], "", ".", "1,2", "ab", {}, {1: 2}, ((),),
    (True, 2), (1, False), (1, None), (None, 1), ("1", 2), (1, "2"), (1.0, 2), (1, 2.5), ((1, 2), 3), (1, (2,)),
    ([1], 2),
)


def small_disk(which, height, places, other=None):
    """A disk of the small bounds, the area that counts and the other one as told."""
    counting = list(places) + [()] * (6 - len(places))
    other = [()] * 6 if other is None else list(other)
    return [counting, other, [(0, height)]] if which == 0 else [other, counting, [(1, height)]]


class BlankDiskTest(unittest.TestCase):
    def test_two_empty_areas_and_the_sign(self):
        self.assertEqual(blank_disk((0, 2, 1)), [[(), ()], [(), ()], [(0, 0)]])
        self.assertEqual(blank_disk(SMALL), [[()] * 6, [()] * 6, [(0, 0)]])
        for bounds in BOUNDS:
            size = size_of(bounds, bounds[0])
            self.assertEqual(blank_disk(bounds), [[()] * size, [()] * size, [(0, 0)]])

    def test_it_is_a_sound_disk(self):
        for bounds in BOUNDS:
            self.assertIs(is_disk(bounds, blank_disk(bounds)), True)

    def test_each_list_is_its_own(self):
        disk = blank_disk(SMALL)
        disk[0][2] = (1, 1)
        disk[2][0] = (1, 1)
        self.assertEqual(disk[1], [()] * 6)
        disk[1].append((2, 2))
        self.assertEqual(disk[0], [(), (), (1, 1), (), (), ()])
        disk.append([])
        self.assertEqual(blank_disk(SMALL), [[()] * 6, [()] * 6, [(0, 0)]])


class SoundDiskTest(unittest.TestCase):
    def assert_sound(self, disk):
        with self.subTest(disk=disk):
            self.assertIs(is_disk(SMALL, copy_of(disk)), True)

    def test_straight_ones_in_either_area(self):
        shelves = ((0, [(), (), ()]), (0, [(1, 1), (2, 2), (3, 3)]), (0, [(), (5, -5), ()]),
                   (1, [(1, 1), (), (2, 2), (), (3, 3), (4, 4)]), (1, [()] * 6), (1, [(-GREAT, GREAT), (GREAT, 0)]))
        for height, places in shelves:
            for which in (0, 1):
                self.assert_sound(small_disk(which, height, places))

    def test_a_thing_twice_in_either_area(self):
        shelves = ((0, [(1, 1), (1, 1), ()]), (0, [(1, 1), (), (1, 1)]), (0, [(1, 1), (2, 2), (2, 2)]),
                   (1, [(1, 1), (), (), (), (), (1, 1)]), (1, [(1, 1), (2, 2), (), (2, 2), (3, 3)]))
        for height, places in shelves:
            for which in (0, 1):
                self.assert_sound(small_disk(which, height, places))

    def test_what_lies_behind_the_shelf_does_not_count(self):
        for behind in ([(1, 1)] * 3, [(2, 2), (), (1, 9)], [(), (-GREAT, 0), (-GREAT, 0)], [(9, 9), (8, 8), (7, 7)]):
            for which in (0, 1):
                self.assert_sound(small_disk(which, 0, [(1, 1), (), (2, 2)] + behind))
                self.assert_sound(small_disk(which, 0, [(1, 1), (1, 1), (2, 2)] + behind))

    def test_the_other_area_does_not_count(self):
        for other in ([(1, 1)] * 6, [(3, 3), (2, 2), (1, 1), (), (1, 1), (2, 2)], [(1, n) for n in range(6)]):
            for which, height in itertools.product((0, 1), (0, 1)):
                self.assert_sound(small_disk(which, height, [(1, 1), (), (2, 2)], other))

    def test_as_many_things_as_the_cap(self):
        for which in (0, 1):
            self.assert_sound(small_disk(which, 0, [(1, 1), (2, 2), (3, 3)]))
            self.assert_sound(small_disk(which, 1, [(1, 1), (2, 2), (3, 3), (4, 4)]))

    def test_a_thing_that_lies_twice_is_counted_once(self):
        for which in (0, 1):
            self.assert_sound(small_disk(which, 1, [(1, 1), (2, 2), (3, 3), (4, 4), (4, 4)]))
            self.assert_sound(small_disk(which, 1, [(1, 1), (), (1, 1), (2, 2), (3, 3), (4, 4)]))

    def test_many_disks(self):
        for bounds in BOUNDS:
            for disk in many_disks(bounds):
                self.assertIs(is_disk(bounds, disk), True, (bounds, disk))
            for height in range(bounds[0] + 1):
                for disk in full_disks(bounds, height):
                    self.assertIs(is_disk(bounds, disk), True, (bounds, disk))

    def test_small_disks_as_the_shelf_is_sound(self):
        choices = ((), (1, 1), (1, 2), (2, 1))
        for which, places in itertools.product((0, 1), itertools.product(choices, repeat=3)):
            disk = small_disk(which, 0, places, [(3, 3), (2, 2)] * 3)
            self.assertIs(is_disk(SMALL, disk), is_sound(list(places)), disk)


class NoDiskTest(unittest.TestCase):
    def assert_none(self, thing, bounds=SMALL):
        with self.subTest(thing=thing):
            self.assertIs(is_disk(bounds, thing), False)

    def test_no_list(self):
        for thing in (None, True, False, 0, 3, "", "...", ". / . / 0,0", {}, {0: [], 1: [], 2: []}, object(), is_disk):
            self.assert_none(thing)
        self.assert_none(([()] * 6, [()] * 6, [(0, 0)]))
        self.assert_none({1, 2, 3})

    def test_not_three_lists(self):
        area = [()] * 6
        for thing in ([], [area], [area, area], [area, area, [(0, 0)], []], [area, area, area, [(0, 0)]], area):
            self.assert_none(thing)

    def test_an_area_that_is_longer_or_shorter(self):
        for many in (0, 1, 3, 5, 7, 12):
            for sign in ((0, 0), (1, 0), (0, 1), (1, 1)):
                self.assert_none([[()] * many, [()] * 6, [sign]])
                self.assert_none([[()] * 6, [()] * many, [sign]])
        self.assert_none([[()] * 7, [()] * 5, [(0, 0)]])

    def test_an_area_that_is_no_list(self):
        for area in (((),) * 6, (), None, 6, True, "......", {}, dict.fromkeys(range(6), ()), range(6)):
            for sign in ((0, 0), (1, 1)):
                self.assert_none([area, [()] * 6, [sign]])
                self.assert_none([[()] * 6, area, [sign]])

    def test_a_disk_of_other_bounds(self):
        self.assert_none(blank_disk((0, 3, 1)))
        self.assert_none(blank_disk((1, 4, 1)))
        self.assert_none(blank_disk((2, 4, 1)))
        self.assert_none(blank_disk(SMALL), (2, 4, 1))
        self.assert_none([[()] * 6, [()] * 6, [(0, 1)]], (0, 6, 1))

    def test_a_place_that_is_none(self):
        for wrong, place, which, height in itertools.product(NO_PLACES, (0, 2, 3, 5), (0, 1), (0, 1)):
            places = [()] * 6
            places[place] = wrong
            self.assert_none(small_disk(which, height, places))
            self.assert_none(small_disk(which, height, [(1, 1)], places))

    def test_a_sign_that_is_none(self):
        for sign in NO_PLACES + ((),):
            self.assert_none([[()] * 6, [()] * 6, [sign]])

    def test_no_list_with_one_sign(self):
        for signs in ([], [(0, 0), (0, 0)], [(0, 0), (1, 1)], [[(0, 0)]], (0, 0), ((0, 0),), [0, 0], None, 0, "", {}):
            self.assert_none([[()] * 6, [()] * 6, signs])

    def test_a_sign_out_of_bounds(self):
        for sign in ((2, 0), (-1, 0), (3, 1), (0, 2), (1, 2), (0, -1), (1, -1), (GREAT, 0), (0, GREAT), (-2, 0)):
            self.assert_none([[()] * 6, [()] * 6, [sign]])
        for bounds in BOUNDS:
            for height in range(-1, 7):
                disk = blank_disk(bounds)
                disk[2] = [(1, height)]
                self.assertIs(is_disk(bounds, disk), 0 <= height <= bounds[0])

    def test_a_truth_in_the_sign(self):
        for sign in ((True, 0), (False, 0), (0, True), (1, False), (True, True)):
            self.assert_none([[()] * 6, [()] * 6, [sign]])

    def test_a_key_that_does_not_rise(self):
        for places in ([(2, 2), (1, 1)], [(2, 2), (), (1, 1)], [(1, 1), (1, 2)], [(1, 1), (0, 0), (2, 2)]):
            for which, height in itertools.product((0, 1), (0, 1)):
                self.assert_none(small_disk(which, height, places))

    def test_a_key_that_does_not_rise_at_the_last_place_that_counts(self):
        for which in (0, 1):
            self.assert_none(small_disk(which, 0, [(2, 2), (), (1, 1)]))
            self.assert_none(small_disk(which, 1, [(2, 2), (), (), (), (), (1, 1)]))

    def test_a_thing_thrice_and_two_things_twice(self):
        for which in (0, 1):
            self.assert_none(small_disk(which, 0, [(1, 1)] * 3))
            self.assert_none(small_disk(which, 1, [(1, 1), (), (1, 1), (), (1, 1)]))
            self.assert_none(small_disk(which, 1, [(1, 1), (1, 1), (2, 2), (2, 2)]))
            self.assert_none(small_disk(which, 1, [(1, 1), (1, 1), (), (2, 2), (), (2, 2)]))
            self.assert_none(small_disk(which, 1, [(1, 1), (2, 2), (1, 1)]))

    def test_one_thing_more_than_the_cap(self):
        five = [(key, key) for key in range(1, 6)]
        for which in (0, 1):
            self.assert_none(small_disk(which, 1, five))
            self.assert_none(small_disk(which, 1, [()] + five))
            self.assert_none(small_disk(which, 1, five + [(5, 5)]))
            self.assert_none(small_disk(which, 1, five + [(6, 6)]))
        for bounds in BOUNDS:
            for height in range(1, bounds[0] + 1):
                size, cap = size_of(bounds, height), told_cap(bounds, height)
                for which in (0, 1):
                    disk = disk_with(bounds, which, height, shelf_at(size, range(cap + 1)))
                    self.assertIs(is_disk(bounds, disk), False)
                    disk[which][cap] = disk[which][cap - 1]
                    self.assertIs(is_disk(bounds, disk), True)


class ShelfOnTest(unittest.TestCase):
    def test_the_begin_of_the_area_that_counts(self):
        disk = [[(1, 1), (), (2, 2), (3, 3), (), ()], [(), (9, 9), (), (), (8, 8), ()], [(0, 0)]]
        for sign, shelf in (((0, 0), [(1, 1), (), (2, 2)]), ((0, 1), [(1, 1), (), (2, 2), (3, 3), (), ()]),
                            ((1, 0), [(), (9, 9), ()]), ((1, 1), [(), (9, 9), (), (), (8, 8), ()])):
            disk[2] = [sign]
            self.assertEqual(shelf_on(SMALL, disk), shelf)

    def test_many_disks(self):
        for bounds in BOUNDS:
            for disk in many_disks(bounds):
                self.assertEqual(shelf_on(bounds, copy_of(disk)), told_shelf(bounds, disk))

    def test_a_shelf_with_a_thing_twice_is_told_as_it_lies(self):
        self.assertEqual(shelf_on(SMALL, small_disk(1, 0, [(1, 1), (1, 1)])), [(1, 1), (1, 1), ()])

    def test_a_new_list(self):
        for sign in ((0, 0), (0, 1), (1, 0), (1, 1)):
            disk = [[(1, 1)] + [()] * 5, [(1, 1)] + [()] * 5, [sign]]
            as_it_was = copy_of(disk)
            shelf = shelf_on(SMALL, disk)
            shelf[0] = (5, 5)
            shelf.append(())
            self.assertEqual(disk, as_it_was)
            again = shelf_on(SMALL, disk)
            disk[sign[0]][0] = (6, 6)
            self.assertEqual(again[0], (1, 1))


class WrittenTest(unittest.TestCase):
    DISK = [[(1, 1), (), (2, 2), (), (), ()], [(), (), (), (4, 4), (), ()], [(0, 0)]]

    def test_no_writes(self):
        self.assertEqual(written(copy_of(self.DISK), []), self.DISK)

    def test_writes_of_both_areas_and_of_the_sign(self):
        writes = [(0, 1, (1, 5)), (1, 3, ()), (1, 0, (7, 7)), (2, 0, (1, 1)), (0, 5, (8, -8))]
        behind = [[(1, 1), (1, 5), (2, 2), (), (), (8, -8)], [(7, 7), (), (), (), (), ()], [(1, 1)]]
        self.assertEqual(written(copy_of(self.DISK), writes), behind)

    def test_writes_are_done_in_their_order(self):
        writes = [(0, 1, (5, 5)), (0, 1, ()), (0, 1, (6, 6)), (2, 0, (1, 1)), (2, 0, (1, 0))]
        self.assertEqual(written(copy_of(self.DISK), writes)[0][1], (6, 6))
        self.assertEqual(written(copy_of(self.DISK), writes)[2], [(1, 0)])
        self.assertEqual(written(copy_of(self.DISK), writes[::-1])[0][1], (5, 5))
        self.assertEqual(written(copy_of(self.DISK), writes[::-1])[2], [(1, 1)])

    def test_the_disk_and_the_writes_stay(self):
        disk, writes = copy_of(self.DISK), [(0, 0, ()), (1, 3, ()), (2, 0, (1, 1))]
        written(disk, writes)
        self.assertEqual(disk, self.DISK)
        self.assertEqual(writes, [(0, 0, ()), (1, 3, ()), (2, 0, (1, 1))])

    def test_all_lists_are_new(self):
        for writes in ([], [(0, 0, (0, 0))], [(1, 0, (0, 0)), (2, 0, (1, 0))]):
            disk = copy_of(self.DISK)
            behind = written(disk, writes)
            as_told = copy_of(behind)
            for part in behind:
                part.append((5, 5))
                part[0] = (6, 6)
            behind.append([])
            self.assertEqual(disk, self.DISK)
            again = written(disk, writes)
            self.assertEqual(again, as_told)
            for part in disk:
                part[0] = (7, 7)
            disk.pop()
            self.assertEqual(again, as_told)

    def test_areas_that_are_one_list_come_apart(self):
        area = [()] * 6
        behind = written([area, area, [(0, 0)]], [(0, 2, (1, 1))])
        self.assertEqual(behind, [[(), (), (1, 1), (), (), ()], [()] * 6, [(0, 0)]])


class PutTest(unittest.TestCase):
    def test_where_there_is_room(self):
        for which in (0, 1):
            disk = small_disk(which, 1, [(10, 1), (20, 2), (30, 3)], [(5, 5)] * 6)
            self.assertEqual(
                disk_put(SMALL, disk, 25, 0), [(which, 4, (30, 3)), (which, 2, ()), (which, 3, (25, 0))])
            disk = small_disk(which, 0, [(10, 1), (), (), (5, 5), (10, 0)], [(5, 5)] * 6)
            self.assertEqual(
                disk_put(SMALL, disk, 5, -GREAT), [(which, 1, (10, 1)), (which, 0, ()), (which, 0, (5, -GREAT))])

    def test_a_new_worth(self):
        for which in (0, 1):
            disk = small_disk(which, 0, [(), (10, 1), (), (20, 2)], [(20, 2)] * 6)
            self.assertEqual(disk_put(SMALL, disk, 10, 7), [(which, 1, (10, 7))])
            self.assertEqual(disk_put(SMALL, disk, 10, 1), [(which, 1, (10, 1))])

    def test_a_new_worth_on_a_full_shelf_makes_no_growing(self):
        for bounds in BOUNDS:
            for height in range(bounds[0] + 1):
                for disk in full_disks(bounds, height):
                    which = disk[2][0][0]
                    shelf = told_shelf(bounds, disk)
                    for key, worth in told_rows(bounds, disk)[:3] + told_rows(bounds, disk)[-1:]:
                        place = shelf.index((key, worth))
                        self.assertEqual(disk_put(bounds, disk, key, 99), [(which, place, (key, 99))])

    def test_growing_with_nothing_to_be_cleared(self):
        disk = small_disk(0, 0, [(1, 1), (2, 2), (3, 3)])
        self.assertEqual(disk_put(SMALL, disk, 4, 4), [
            (1, 0, (1, 1)), (1, 2, (2, 2)), (1, 4, (3, 3)), (2, 0, (1, 1)),
            (1, 3, (3, 3)), (1, 4, ()), (1, 4, (4, 4)),
        ])

    def test_growing_clears_the_other_area_first(self):
        disk = small_disk(1, 0, [(1, 1), (2, 2), (3, 3), (2, 9)], [(), (9, 9), (), (), (9, 9), (1, 1)])
        self.assertEqual(disk_put(SMALL, disk, 0, 7), [
            (0, 1, ()), (0, 4, ()), (0, 5, ()),
            (0, 0, (1, 1)), (0, 2, (2, 2)), (0, 4, (3, 3)), (2, 0, (0, 1)),
            (0, 1, (1, 1)), (0, 0, ()), (0, 0, (0, 7)),
        ])

    def test_what_lies_in_the_other_area_behind_the_greater_shelf_is_cleared_too(self):
        bounds = (2, 4, 1)
        disk = [[(1, 1), (2, 2), (3, 3), (4, 4)] + [()] * 12, [()] * 15 + [(5, 5)], [(0, 0)]]
        self.assertEqual(disk_put(bounds, disk, 5, 5)[:2], [(1, 15, ()), (1, 0, (1, 1))])

    def test_growing_at_each_height(self):
        for bounds in BOUNDS:
            for height in range(bounds[0]):
                for disk in full_disks(bounds, height):
                    keys = new_keys_of(told_rows(bounds, disk))
                    growing = told_growing(bounds, disk)
                    for key in (keys[0], keys[len(keys) // 2], keys[-1]):
                        writes = disk_put(bounds, disk, key, -7)
                        self.assertEqual(writes[:len(growing)], growing)
                        self.assertEqual(writes, told_disk_put(bounds, disk, key, -7))
                        self.assertEqual(told_written(disk, writes)[2], [(1 - disk[2][0][0], height + 1)])

    def test_full_at_height_top_alone(self):
        for bounds in BOUNDS:
            for height in range(bounds[0] + 1):
                for disk in full_disks(bounds, height):
                    as_it_was = copy_of(disk)
                    for key in (5, 15, -GREAT, GREAT):
                        if height == bounds[0]:
                            self.assertRaises(Full, disk_put, bounds, disk, key, 0)
                        else:
                            self.assertTrue(disk_put(bounds, disk, key, 0))
                    self.assertEqual(disk, as_it_was)

    def test_one_thing_fewer_than_the_cap(self):
        for bounds in BOUNDS:
            for height in range(bounds[0] + 1):
                for disk in full_disks(bounds, height):
                    which = disk[2][0][0]
                    key = told_rows(bounds, disk)[-1][0]
                    roomy = told_written(disk, told_disk_take(bounds, disk, key))
                    writes = disk_put(bounds, roomy, key, 3)
                    self.assertEqual({write[0] for write in writes}, {which})
                    self.assertEqual(writes, told_disk_put(bounds, roomy, key, 3))

    def test_the_words_of_the_promise(self):
        for bounds in BOUNDS:
            for disk in many_disks(bounds):
                if len(told_rows(bounds, disk)) < told_cap(bounds, bounds[0]):
                    keys = new_keys_of(told_rows(bounds, disk))
                    for key in (keys[0], keys[len(keys) // 2], keys[-1], 10):
                        writes = disk_put(bounds, disk, key, -7)
                        self.assertEqual(writes, told_disk_put(bounds, disk, key, -7), (bounds, disk, key))

    def test_behind_each_write(self):
        for bounds in ((0, 5, 2), SMALL, (2, 4, 1), (2, 8, 2), (3, 5, 1)):
            for height in range(bounds[0]):
                for disk in full_disks(bounds, height):
                    rows = told_rows(bounds, disk)
                    for key in (5, 25, rows[-1][0] + 5):
                        writes = disk_put(bounds, copy_of(disk), key, 3)
                        walk_disk(self, bounds, disk, writes, put_into(rows, key, 3))


class TakeTest(unittest.TestCase):
    def test_one_write(self):
        for which in (0, 1):
            disk = small_disk(which, 0, [(10, 1), (), (20, 2), (30, 3)], [(), (20, 2), (40, 4)] * 2)
            self.assertEqual(disk_take(SMALL, disk, 10), [(which, 0, ())])
            self.assertEqual(disk_take(SMALL, disk, 20), [(which, 2, ())])
            for key in (30, 40, 0, 15, -10):
                self.assertRaises(NoKey, disk_take, SMALL, disk, key)

    def test_of_a_blank_disk(self):
        for bounds in BOUNDS:
            self.assertRaises(NoKey, disk_take, bounds, blank_disk(bounds), 0)

    def test_many_disks(self):
        for bounds in BOUNDS:
            for disk in many_disks(bounds):
                rows = told_rows(bounds, disk)
                for key, worth in rows[:2] + rows[-1:]:
                    writes = disk_take(bounds, copy_of(disk), key)
                    self.assertEqual(writes, told_disk_take(bounds, disk, key))
                    self.assertEqual(told_rows(bounds, written(disk, writes)), taken_from(rows, key))
                for key in new_keys_of(rows)[:2]:
                    self.assertRaises(NoKey, disk_take, bounds, disk, key)


class NothingChangedOrKeptTest(unittest.TestCase):
    def disks(self):
        return [
            (bounds, disk) for bounds in BOUNDS for height in range(bounds[0]) for disk in full_disks(bounds, height)
        ]

    def assert_own_writes(self, ask, disk):
        as_it_was = copy_of(disk)
        told = ask(disk)
        first_told = list(told)
        self.assertIs(told.__class__, list)
        self.assertEqual({write.__class__ for write in told}, {tuple})
        self.assertEqual({len(write) for write in told}, {3})
        self.assertEqual(disk, as_it_was)
        told[0] = (0, 0, (98, 99))
        told.append((0, 1, (98, 99)))
        self.assertEqual(disk, as_it_was)
        again = ask(disk)
        self.assertEqual(again, first_told)
        for part in disk:
            part.clear()
        self.assertEqual(again, first_told)
        self.assertEqual(ask(as_it_was), first_told)

    def test_writes_of_puts_and_takes(self):
        for bounds, disk in self.disks():
            self.assert_own_writes(lambda handed: disk_put(bounds, handed, 15, 7), copy_of(disk))
            self.assert_own_writes(lambda handed: disk_put(bounds, handed, 10, 7), copy_of(disk))
            self.assert_own_writes(lambda handed: disk_take(bounds, handed, 10), copy_of(disk))

    def test_what_is_asked_of_is_as_it_was(self):
        for bounds, disk in self.disks():
            as_it_was = copy_of(disk)
            is_disk(bounds, disk)
            shelf_on(bounds, disk)
            self.assertRaises(NoKey, disk_take, bounds, disk, 11)
            self.assertEqual(disk, as_it_was)


if __name__ == "__main__":
    unittest.main()
