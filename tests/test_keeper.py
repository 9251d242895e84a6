import unittest

from gapshelf.disks import blank_disk
from gapshelf.errors import BadBounds, BadDisk, Full, NoKey
from gapshelf.keeper import Keeper

from helper import (
    BOUNDS, GREAT, NO_BOUNDS, copy_of, disk_with, full_disks, many_disks, put_into, shelf_at, size_of, taken_from,
    told_cap, told_counts, told_disk_put, told_disk_take, told_excess, told_over, told_rows, told_shelf, told_up,
    told_written,
)

SMALL = (1, 3, 1)  # areas of 6 places, shelves of 3 and 6 places, caps 3 and 4

# Shelves of the small bounds with one thing twice, and the same ones mended.
TWICE = (
    (0, [(1, 1), (1, 1), ()], [(1, 1), (), ()]),
    (0, [(1, 1), (), (1, 1)], [(1, 1), (), ()]),
    (0, [(), (1, 1), (1, 1)], [(), (1, 1), ()]),
    (0, [(1, 1), (2, 2), (2, 2)], [(1, 1), (2, 2), ()]),
    (1, [(), (1, 1), (), (), (), (1, 1)], [(), (1, 1), (), (), (), ()]),
    (1, [(1, 1), (2, 2), (), (2, 2), (3, 3), ()], [(1, 1), (2, 2), (), (), (3, 3), ()]),
    (1, [(1, 1), (2, 2), (3, 3), (4, 4), (4, 4), ()], [(1, 1), (2, 2), (3, 3), (4, 4), (), ()]),
    (1, [(1, 1), (1, 1), (2, 2), (3, 3), (4, 4), ()], [(1, 1), (), (2, 2), (3, 3), (4, 4), ()]),
)


def state_of(keeper):
    return (keeper.disk(), keeper.rows(), keeper.counts(), keeper.excess(), keeper.over())


class MakingTest(unittest.TestCase):
    def test_of_a_blank_disk(self):
        for bounds in BOUNDS:
            keeper = Keeper(bounds, blank_disk(bounds))
            self.assertEqual(state_of(keeper), (blank_disk(bounds), [], (0, 0, 0, 0, 0), 0, 0))
            self.assertIsNone(keeper.get(0))

    def test_of_disks_with_things(self):
        for bounds in BOUNDS:
            for disk in many_disks(bounds):
                shelf, height = told_shelf(bounds, disk), disk[2][0][1]
                excess, over = told_excess(bounds, height, shelf), told_over(bounds, height, shelf)
                keeper = Keeper(bounds, copy_of(disk))
                rows = told_rows(bounds, disk)
                self.assertEqual(state_of(keeper), (disk, rows, (0, 0, 0, excess, over), excess, over))
                for key, worth in rows[:3] + rows[-3:]:
                    self.assertEqual(keeper.get(key), worth)
                    self.assertIsNone(keeper.get(key + 1))

    def test_things_that_do_not_count_are_not_found(self):
        disk = [[(1, 1), (), (), (5, 5), (), (6, 6)], [(7, 7)] * 6, [(0, 0)]]
        keeper = Keeper(SMALL, disk)
        self.assertEqual(keeper.rows(), [(1, 1)])
        for key in (5, 6, 7):
            self.assertIsNone(keeper.get(key))
            self.assertRaises(NoKey, keeper.take, key)

    def test_a_worth_of_nought_is_found(self):
        self.assertEqual(Keeper(SMALL, disk_with(SMALL, 0, 0, [(0, 0), (), ()])).get(0), 0)

    def test_of_bounds_that_are_none(self):
        for bounds in NO_BOUNDS + (None,):
            for disk in (blank_disk((2, 8, 2)), None, [], "disk", [[], [], []], [[()], [()], [(5, 5)]]):
                with self.subTest(bounds=bounds, disk=disk):
                    self.assertRaises(BadBounds, Keeper, bounds, disk)

    def test_of_what_is_no_disk(self):
        area = [()] * 6
        for disk in (
            None, True, 0, "", ". / . / 0,0", (), [], [area, area], (area, area, [(0, 0)]), [area, area, [(0, 0)], []],
            [tuple(area), area, [(0, 0)]], [area, area[1:], [(0, 0)]], [area + [()], area, [(0, 0)]],
            [area, area, []], [area, area, [(0, 0), (0, 0)]], [area, area, (0, 0)], [area, area, [(2, 0)]],
            [area, area, [(0, 2)]], [area, area, [(-1, 0)]], [area, area, [(0, -1)]], [area, area, [(False, 0)]],
            [area, [()] * 5 + [(1,)], [(0, 0)]], [[()] * 5 + [[1, 2]], area, [(1, 0)]], [area, [None] * 6, [(0, 0)]],
        ):
            with self.subTest(disk=disk):
                self.assertRaises(BadDisk, Keeper, SMALL, disk)

    def test_of_a_disk_that_is_not_sound(self):
        for which in (0, 1):
            for height, shelf in (
                (0, [(2, 2), (1, 1), ()]), (0, [(1, 1), (), (1, 2)]), (0, [(1, 1)] * 3),
                (1, [(1, 1), (1, 1), (2, 2), (2, 2), (), ()]), (1, [(key, key) for key in range(5)] + [()]),
                (1, [(), (), (2, 2), (), (), (1, 1)]),
            ):
                with self.subTest(which=which, shelf=shelf):
                    self.assertRaises(BadDisk, Keeper, SMALL, disk_with(SMALL, which, height, shelf))

    def test_of_a_disk_of_other_bounds(self):
        for bounds in BOUNDS:
            for others in BOUNDS:
                if size_of(bounds, bounds[0]) != size_of(others, others[0]):
                    self.assertRaises(BadDisk, Keeper, bounds, blank_disk(others))

    def test_of_a_disk_with_a_thing_twice(self):
        for height, shelf, mended in TWICE:
            for which in (0, 1):
                for left_about in (True, False):
                    with self.subTest(shelf=shelf, which=which, left_about=left_about):
                        keeper = Keeper(SMALL, disk_with(SMALL, which, height, shelf, left_about))
                        disk = disk_with(SMALL, which, height, mended, left_about)
                        rows = [thing for thing in mended if thing]
                        excess, over = told_excess(SMALL, height, mended), told_over(SMALL, height, mended)
                        self.assertEqual(state_of(keeper), (disk, rows, (0, 0, 0, excess, over), excess, over))

    def test_excess_and_what_was_over_are_those_of_the_mended_shelf(self):
        keeper = Keeper(SMALL, [[(1, 1), (1, 1), (2, 2), (3, 3), (4, 4), ()], [()] * 6, [(0, 1)]])
        self.assertEqual(keeper.counts(), (0, 0, 0, 0, 1))
        keeper = Keeper(SMALL, [[(1, 1), (2, 2), (3, 3), (4, 4), (), (4, 4)], [()] * 6, [(0, 1)]])
        self.assertEqual(keeper.counts(), (0, 0, 0, 1, 1))

    def test_deeds_go_on_from_a_mended_disk(self):
        keeper = Keeper(SMALL, [[(1, 1), (), (1, 1), (), (), ()], [()] * 6, [(0, 0)]])
        self.assertEqual(keeper.put(2, 2), 1)
        self.assertEqual(keeper.take(1), 1)
        self.assertEqual(keeper.disk(), [[(), (2, 2), (), (), (), ()], [()] * 6, [(0, 0)]])


class DeedTest(unittest.TestCase):
    def test_puts_and_takes(self):
        keeper = Keeper(SMALL, blank_disk(SMALL))
        deeds = (
            (1, lambda: keeper.put(20, 2), [(20, 2)], [(20, 2), (), ()]),
            (1, lambda: keeper.put(30, 3), [(20, 2), (30, 3)], [(20, 2), (30, 3), ()]),
            (1, lambda: keeper.put(20, -5), [(20, -5), (30, 3)], [(20, -5), (30, 3), ()]),
            (1, lambda: keeper.take(30), [(20, -5)], [(20, -5), (), ()]),
            (3, lambda: keeper.put(10, 1), [(10, 1), (20, -5)], [(10, 1), (20, -5), ()]),
            (1, lambda: keeper.take(10), [(20, -5)], [(), (20, -5), ()]),
            (3, lambda: keeper.put(25, 0), [(20, -5), (25, 0)], [(20, -5), (25, 0), ()]),
        )
        for many, deed, rows, shelf in deeds:
            self.assertEqual(deed(), many)
            self.assertEqual(keeper.rows(), rows)
            self.assertEqual(keeper.disk(), [shelf + [()] * 3, [()] * 6, [(0, 0)]])

    def test_growing(self):
        keeper = Keeper(SMALL, [[(1, 1), (2, 2), (3, 3), (9, 9), (), ()], [(), (8, 8), (), (), (), (7, 7)], [(0, 0)]])
        self.assertEqual(keeper.put(4, 4), 9)
        self.assertEqual(keeper.disk(), [
            [(1, 1), (2, 2), (3, 3), (9, 9), (), ()], [(1, 1), (), (2, 2), (3, 3), (4, 4), ()], [(1, 1)],
        ])
        self.assertEqual(keeper.counts(), (1, 1, 3, 0, 3))
        self.assertEqual((keeper.excess(), keeper.over()), (0, 1))

    def test_worths_are_any_whole_numbers(self):
        for worth in (0, -1, GREAT, -GREAT, 10 ** 60 - 1, 1 - 10 ** 60):
            keeper = Keeper(SMALL, blank_disk(SMALL))
            keeper.put(worth, worth)
            self.assertEqual(keeper.get(worth), worth)
            self.assertEqual(keeper.rows(), [(worth, worth)])

    def test_the_words_of_the_promise(self):
        for bounds in BOUNDS:
            for disk in many_disks(bounds):
                rows = told_rows(bounds, disk)
                if len(rows) < told_cap(bounds, bounds[0]):
                    keeper = Keeper(bounds, disk)
                    writes = told_disk_put(bounds, disk, 15, 6)
                    counts = told_counts(bounds, disk, 15, writes, keeper.counts())
                    self.assertEqual(keeper.put(15, 6), len(writes))
                    self.assertEqual(keeper.disk(), told_written(disk, writes))
                    self.assertEqual(keeper.rows(), put_into(rows, 15, 6))
                    self.assertEqual(keeper.counts(), counts)
                for key in [key for key, worth in rows[-1:]]:
                    keeper = Keeper(bounds, disk)
                    counts = keeper.counts()
                    self.assertEqual(keeper.take(key), 1)
                    self.assertEqual(keeper.disk(), told_written(disk, told_disk_take(bounds, disk, key)))
                    self.assertEqual(keeper.rows(), taken_from(rows, key))
                    self.assertEqual(keeper.counts(), counts)

    def test_kinds(self):
        keeper = Keeper(SMALL, disk_with(SMALL, 0, 0, [(1, 1), (), (2, 2)]))
        self.assertIs(keeper.put(3, 3).__class__, int)
        self.assertIs(keeper.take(3, 0).__class__, int)
        self.assertIs(keeper.counts().__class__, tuple)
        self.assertEqual([number.__class__ for number in keeper.counts()], [int] * 5)
        self.assertEqual([keeper.excess().__class__, keeper.over().__class__], [int, int])


class BrokenOffTest(unittest.TestCase):
    def assert_deed(self, bounds, disk, deed, key, writes, most):
        """Of a keeper that has counted something before, so that a beginning anew is seen."""
        keeper = Keeper(bounds, disk)
        known = told_rows(bounds, disk)[0]
        keeper.take(known[0])
        keeper.put(known[0], known[1])
        before, lying = keeper.counts(), keeper.disk()
        self.assertEqual(before[0], 1)
        writes = writes(lying)
        many = len(writes) if most is None else min(most, len(writes))
        behind = told_written(lying, writes[:many])
        if many < len(writes):
            behind, counts = told_up(bounds, behind)
        else:
            counts = told_counts(bounds, lying, key, writes, before)
        self.assertEqual(deed(keeper, most), many)
        self.assertEqual(keeper.disk(), behind)
        self.assertEqual(keeper.rows(), told_rows(bounds, behind))
        self.assertEqual(keeper.counts(), counts)
        if many < len(writes):
            self.assertEqual(keeper.rows(), told_rows(bounds, disk))
            self.assertEqual(keeper.counts()[3:], (keeper.excess(), keeper.over()))
        return len(writes)

    def assert_put(self, bounds, disk, key, most):
        return self.assert_deed(
            bounds, disk, lambda keeper, most: keeper.put(key, 77, most), key,
            lambda lying: told_disk_put(bounds, lying, key, 77), most)

    def assert_take(self, bounds, disk, key, most):
        return self.assert_deed(
            bounds, disk, lambda keeper, most: keeper.take(key, most), key,
            lambda lying: told_disk_take(bounds, lying, key), most)

    def test_puts_behind_every_single_write(self):
        for bounds in ((0, 5, 2), SMALL, (2, 4, 1), (2, 8, 2)):
            for height in range(bounds[0] + 1):
                size = size_of(bounds, height)
                for which in (0, 1):
                    disk = disk_with(bounds, which, height, shelf_at(size, range(told_cap(bounds, height) - 1)))
                    for key in (5, 10, 15, 10 * size):
                        for most in range(self.assert_put(bounds, disk, key, None) + 2):
                            self.assert_put(bounds, disk, key, most)
                        self.assert_put(bounds, disk, key, GREAT)

    def test_growing_puts_behind_every_single_write(self):
        for bounds in (SMALL, (2, 4, 1), (2, 8, 2), (3, 5, 1)):
            for height in range(bounds[0]):
                for disk in full_disks(bounds, height)[::3]:
                    for most in range(self.assert_put(bounds, disk, 15, None) + 2):
                        self.assert_put(bounds, disk, 15, most)

    def test_of_a_great_shelf(self):
        bounds = (4, 20, 3)
        for height in range(4):
            disk = full_disks(bounds, height)[0]
            many = self.assert_put(bounds, disk, 15, None)
            for most in (0, 1, many // 3, many // 2, many - 2, many - 1, many, many + 1):
                self.assert_put(bounds, disk, 15, most)

    def test_takes(self):
        for bounds in BOUNDS:
            for disk in [disk for disk in many_disks(bounds) if told_rows(bounds, disk)]:
                for most in (None, 0, 1, 2, GREAT):
                    self.assert_take(bounds, disk, told_rows(bounds, disk)[-1][0], most)

    def test_a_thing_that_lies_twice_is_mended(self):
        keeper = Keeper(SMALL, [[(), (20, 2), ()] + [()] * 3, [()] * 6, [(0, 0)]])
        self.assertEqual(keeper.put(30, 3, 1), 1)
        self.assertEqual(keeper.disk()[0], [(20, 2), (), (), (), (), ()])
        keeper = Keeper(SMALL, [[(20, 2), (), ()] + [()] * 3, [()] * 6, [(0, 0)]])
        self.assertEqual(keeper.put(10, 1, 1), 1)
        self.assertEqual(keeper.disk()[0], [(20, 2), (), (), (), (), ()])
        self.assertEqual(keeper.put(10, 1, 2), 2)
        self.assertEqual(keeper.disk()[0], [(), (20, 2), (), (), (), ()])

    def test_what_growing_left_stays_on_the_disk(self):
        keeper = Keeper(SMALL, [[(1, 1), (2, 2), (3, 3), (), (), ()], [()] * 6, [(0, 0)]])
        self.assertEqual(keeper.put(4, 4, 2), 2)
        self.assertEqual(keeper.disk(), [
            [(1, 1), (2, 2), (3, 3), (), (), ()], [(1, 1), (), (2, 2), (), (), ()], [(0, 0)],
        ])
        self.assertEqual(keeper.counts(), (0, 0, 0, 0, 3))
        self.assertEqual(keeper.put(0, 0, 6), 6)
        self.assertEqual(keeper.disk(), [
            [(1, 1), (2, 2), (3, 3), (), (), ()], [(1, 1), (), (2, 2), (), (3, 3), ()], [(1, 1)],
        ])
        self.assertEqual(keeper.counts(), (0, 0, 0, 0, 0))
        self.assertEqual(keeper.put(4, 4), 3)
        self.assertEqual(keeper.counts(), (1, 1, 0, 0, 0))

    def test_a_deed_of_which_all_writes_are_done_is_not_broken_off(self):
        for most in (1, 2, 3, 100):
            keeper = Keeper(SMALL, blank_disk(SMALL))
            keeper.put(1, 1)
            self.assertEqual(keeper.put(2, 2, most), 1)
            self.assertEqual(keeper.take(1, most), 1)
            self.assertEqual(keeper.put(2, 3, most), 1)
            self.assertEqual(keeper.counts(), (2, 0, 0, 0, 0))
            self.assertEqual(keeper.rows(), [(2, 3)])

    def test_a_deed_of_which_no_write_is_done_is_broken_off(self):
        keeper = Keeper(SMALL, blank_disk(SMALL))
        deeds = (lambda: keeper.put(2, 2, 0), lambda: keeper.put(1, 5, 0), lambda: keeper.take(1, 0))
        for deed in deeds:
            keeper.put(0, 0)
            keeper.put(1, 1)
            self.assertEqual(keeper.counts()[0], 2)
            self.assertEqual(deed(), 0)
            self.assertEqual(keeper.rows(), [(0, 0), (1, 1)])
            self.assertEqual(keeper.counts(), (0, 0, 0, 0, 2))
            keeper.take(0)
            keeper.take(1)

    def test_most_below_nought_is_none_at_all(self):
        disk = [[(20, 2), (), (), (), (), ()], [()] * 6, [(0, 0)]]
        keeper = Keeper(SMALL, copy_of(disk))
        for most in (-1, -2, -GREAT):
            self.assertEqual((keeper.put(10, 1, most), keeper.take(20, most)), (0, 0))
            self.assertEqual(keeper.disk(), disk)

    def test_most_by_its_name(self):
        keeper = Keeper(SMALL, blank_disk(SMALL))
        self.assertEqual(keeper.put(key=1, amount=2, most=None), 1)
        self.assertEqual(keeper.put(key=1, amount=3, most=0), 0)
        self.assertEqual(keeper.take(key=1, most=0), 0)
        self.assertEqual(keeper.get(key=1), 2)
        self.assertEqual(keeper.take(key=1, most=1), 1)
        self.assertEqual(Keeper(bounds=SMALL, disk=blank_disk(SMALL)).rows(), [])


class RefusedTest(unittest.TestCase):
    def assert_refused(self, keeper, refusal, deed, *handed):
        before = state_of(keeper)
        self.assertRaises(refusal, deed, *handed)
        for most in (None, 0, 1, 2, GREAT):
            self.assertRaises(refusal, deed, *handed, most)
            self.assertEqual(state_of(keeper), before)

    def test_a_take_of_a_key_that_is_not_there(self):
        for bounds in BOUNDS:
            for disk in many_disks(bounds)[::5]:
                keeper = Keeper(bounds, disk)
                for key in (5, 15, -3, GREAT):
                    self.assert_refused(keeper, NoKey, keeper.take, key)

    def test_a_put_where_the_shelf_can_not_grow(self):
        for bounds in BOUNDS:
            for disk in full_disks(bounds, bounds[0]):
                keeper = Keeper(bounds, disk)
                rows = keeper.rows()
                for key in (5, 15, rows[-1][0] + 5, -GREAT):
                    self.assert_refused(keeper, Full, keeper.put, key, 0)
                self.assertEqual(keeper.put(10, 3), 1)
                self.assertEqual(keeper.get(10), 3)
                self.assertEqual(keeper.take(10), 1)
                self.assertTrue(keeper.put(5, 3))
                self.assert_refused(keeper, Full, keeper.put, 10, 0)
                self.assert_refused(keeper, NoKey, keeper.take, 10)

    def test_counts_that_are_more_than_nought_stay(self):
        keeper = Keeper(SMALL, blank_disk(SMALL))
        for key in (1, 2, 3, 4):
            keeper.put(key, key)
        self.assertEqual(keeper.counts(), (4, 1, 3, 0, 0))
        self.assert_refused(keeper, Full, keeper.put, 5, 5)
        self.assert_refused(keeper, NoKey, keeper.take, 5)
        self.assertEqual(keeper.counts(), (4, 1, 3, 0, 0))

    def test_full_just_where_it_can_not_grow_and_has_its_cap(self):
        for bounds in BOUNDS:
            keeper = Keeper(bounds, blank_disk(bounds))
            for key in range(told_cap(bounds, bounds[0])):
                keeper.put(key * 7 % 1009, key)
            self.assertEqual(len(keeper.rows()), told_cap(bounds, bounds[0]))
            self.assert_refused(keeper, Full, keeper.put, 2000, 0)


class CountsTest(unittest.TestCase):
    def test_puts_of_new_keys_alone(self):
        keeper = Keeper((2, 8, 2), blank_disk((2, 8, 2)))
        for number, key in enumerate((5, 3, 9, 7)):
            keeper.put(key, 0)
            self.assertEqual(keeper.counts()[0], number + 1)
            keeper.put(key, 1)
            keeper.put(5, number)
            self.assertEqual(keeper.counts()[0], number + 1)
        keeper.take(5)
        self.assertEqual(keeper.counts()[0], 4)
        keeper.put(5, 5)
        self.assertEqual(keeper.counts()[0], 5)

    def test_moves_each_once(self):
        keeper = Keeper(SMALL, [[(10, 1), (20, 2), (), (), (), ()], [()] * 6, [(0, 0)]])
        self.assertEqual(keeper.put(5, 5), 5)
        self.assertEqual(keeper.counts(), (1, 2, 0, 0, 2))
        keeper = Keeper(SMALL, [[(10, 1), (20, 2), (30, 3), (), (), ()], [()] * 6, [(0, 1)]])
        self.assertEqual(keeper.put(25, 0), 3)
        self.assertEqual(keeper.counts(), (1, 1, 0, 1, 0))
        self.assertEqual(keeper.put(25, 9), 1)
        self.assertEqual(keeper.take(25), 1)
        self.assertEqual(keeper.counts(), (1, 1, 0, 1, 0))

    def test_things_laid_by_growing(self):
        bounds = (2, 4, 1)  # caps 4, 6, 8
        keeper = Keeper(bounds, blank_disk(bounds))
        laid = []
        for key in range(8):
            keeper.put(key, key)
            laid.append(keeper.counts()[2])
        self.assertEqual(laid, [0, 0, 0, 0, 4, 4, 10, 10])
        self.assertEqual(keeper.counts()[0], 8)

    def test_clearing_the_other_area_is_no_move(self):
        keeper = Keeper(SMALL, [[(1, 1), (2, 2), (3, 3), (), (), ()], [(9, 9)] * 6, [(0, 0)]])
        self.assertEqual(keeper.put(4, 4), 6 + 3 + 1 + 2 + 1)
        self.assertEqual(keeper.counts(), (1, 1, 3, 0, 3))

    def test_the_excess_and_what_was_over_at_coming_up_stay(self):
        bounds = (2, 4, 1)  # calms 3, 4; caps 4, 6, 8
        keeper = Keeper(bounds, disk_with(bounds, 1, 2, shelf_at(16, range(7))))
        self.assertEqual(keeper.counts(), (0, 0, 0, 1 + 3, 1))
        self.assertEqual((keeper.excess(), keeper.over()), (4, 1))
        keeper.take(10)
        keeper.take(20)
        self.assertEqual((keeper.excess(), keeper.over()), (1, 0))
        self.assertEqual(keeper.counts(), (0, 0, 0, 4, 1))
        keeper.take(30, 0)
        self.assertEqual(keeper.counts(), (0, 0, 0, 1, 0))

    def test_asking_changes_nothing(self):
        keeper = Keeper(SMALL, [[(1, 1), (2, 2), (3, 3), (), (), ()], [(9, 9)] * 6, [(0, 0)]])
        keeper.put(4, 4)
        before = state_of(keeper)
        keeper.get(1)
        keeper.get(7)
        self.assertEqual(state_of(keeper), before)
        self.assertEqual(state_of(keeper), before)


class NothingChangedOrKeptTest(unittest.TestCase):
    DISK = [[(1, 1), (), (2, 2), (), (9, 9), ()], [(8, 8), (), (), (7, 7), (), ()], [(0, 0)]]

    def test_the_disk_handed_in_is_as_it_was(self):
        for disk in (self.DISK, [[(1, 1), (1, 1), (), (), (), ()], [()] * 6, [(0, 0)]]):
            handed = copy_of(disk)
            keeper = Keeper(SMALL, handed)
            for key in (5, 0):
                keeper.put(key, key)
                keeper.put(key, key + 1, 0)
            keeper.take(1)
            self.assertEqual(handed, disk)

    def test_the_disk_handed_in_may_be_changed(self):
        handed = copy_of(self.DISK)
        keeper = Keeper(SMALL, handed)
        before = state_of(keeper)
        handed[0][0] = (5, 5)
        handed[1].clear()
        handed[2][0] = (1, 1)
        handed.pop()
        self.assertEqual(state_of(keeper), before)
        self.assertEqual(keeper.put(3, 3), Keeper(SMALL, copy_of(self.DISK)).put(3, 3))

    def test_a_refused_disk_is_as_it_was(self):
        handed = [[(2, 2), (1, 1), (), (), (), ()], [()] * 6, [(0, 0)]]
        as_it_was = copy_of(handed)
        self.assertRaises(BadDisk, Keeper, SMALL, handed)
        self.assertEqual(handed, as_it_was)

    def test_told_lists_are_the_askers_own(self):
        keeper = Keeper(SMALL, copy_of(self.DISK))
        before = state_of(keeper)
        told = keeper.disk()
        for part in told:
            part[0] = (6, 6)
            part.append((6, 6))
        told.clear()
        rows = keeper.rows()
        rows[0] = (6, 6)
        rows.append((6, 6))
        self.assertEqual(state_of(keeper), before)

    def test_nothing_done_later_changes_what_was_told(self):
        keeper = Keeper(SMALL, copy_of(self.DISK))
        disk, rows = keeper.disk(), keeper.rows()
        keeper.put(1, 50)
        keeper.put(5, 5)
        keeper.put(6, 6)
        keeper.take(2)
        self.assertEqual(disk, self.DISK)
        self.assertEqual(rows, [(1, 1), (2, 2)])

    def test_areas_that_are_one_list_come_apart(self):
        area = [()] * 6
        keeper = Keeper(SMALL, [area, area, [(0, 0)]])
        keeper.put(1, 1)
        self.assertEqual(keeper.disk(), [[(1, 1)] + [()] * 5, [()] * 6, [(0, 0)]])

    def test_two_keepers_of_one_disk_do_not_touch_one_another(self):
        handed = copy_of(self.DISK)
        one, other = Keeper(SMALL, handed), Keeper(SMALL, handed)
        before = state_of(other)
        for key in (10, 20):
            one.put(key, key)
        one.take(1)
        one.take(2, 0)
        self.assertEqual(state_of(other), before)
        self.assertEqual(other.put(3, 3), 3)
        self.assertEqual(one.rows(), [(2, 2), (10, 10), (20, 20)])

    def test_two_keepers_of_a_told_disk(self):
        one = Keeper(SMALL, copy_of(self.DISK))
        told = one.disk()
        other = Keeper(SMALL, told)
        one.take(1)
        other.put(1, 9)
        self.assertEqual(told, self.DISK)
        self.assertEqual((one.rows(), other.rows()), ([(2, 2)], [(1, 9), (2, 2)]))


if __name__ == "__main__":
    unittest.main()
