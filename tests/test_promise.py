"""The promise over the whole program: long rows of deeds at keepers and at desks, and falls among them."""

import unittest

from gapshelf.desk import Desk
from gapshelf.disks import blank_disk, disk_put, disk_take, is_disk
from gapshelf.errors import Full, NoKey
from gapshelf.keeper import Keeper
from gapshelf.shelves import is_straight
from gapshelf.texts import read_disk, write_disk

from helper import (
    BOUNDS, GREAT, assert_paid, copy_of, full_disks, many_disks, numbers_from, put_into, taken_from, told_cap,
    told_rows, told_shelf, told_up, told_written, walk_disk,
)

# Shelves that are soon full, so that falls can be tried behind every write of every deed.
NARROW = ((0, 2, 1), (1, 3, 1), (2, 4, 1), (3, 5, 1))


class AtKeeper:
    """A keeper, asked as the tests ask."""

    def __init__(self, bounds, disk):
        self.keeper = Keeper(bounds, disk)

    def do(self, deed, most=None):
        if deed[0] == "put":
            return self.keeper.put(deed[1], deed[2], most)
        return self.keeper.take(deed[1], most)

    def disk(self):
        return self.keeper.disk()

    def rows(self):
        return self.keeper.rows()

    def worth(self, key):
        return self.keeper.get(key)

    def coins(self):
        return self.keeper.counts(), self.keeper.excess(), self.keeper.over()


class AtDesk:
    """A desk, asked the same by rows of words."""

    def __init__(self, bounds, disk):
        self.desk = Desk(bounds)
        self.desk.say("load " + write_disk(disk))

    def do(self, deed, most=None):
        words = [str(word) for word in deed] + ([] if most is None else ["most", str(most)])
        return int(self.desk.say(" ".join(words)))

    def disk(self):
        return read_disk(self.desk.say("disk"))

    def rows(self):
        said = self.desk.say("rows")
        return [] if said == "-" else [tuple(int(number) for number in word.split(":")) for word in said.split(" ")]

    def worth(self, key):
        said = self.desk.say(f"get {key}")
        return None if said == "none" else int(said)

    def coins(self):
        counts = tuple(int(word) for word in self.desk.say("counts").split(" "))
        return counts, int(self.desk.say("excess")), int(self.desk.say("over"))


def jumping_deeds(bounds, many):
    """Puts and takes of keys here and there; by turns more puts, so that all gets full, and more takes."""
    cap = told_cap(bounds, bounds[0])
    jumps, choices = numbers_from(many, 2 * cap + 3), numbers_from(cap, 10)
    deeds = []
    for number in range(many):
        puts = 9 if number // (2 * cap) % 2 == 0 else 3
        key = next(jumps) * 7 - 50
        deeds.append(("put", key, number) if next(choices) < puts else ("take", key))
    return deeds


def crowded_keys(cap):
    """Rows of new keys that crowd at one spot: at the begin, at the end, in the midst."""
    return (
        [-number for number in range(cap + 2)],
        list(range(cap + 2)),
        [0, GREAT] + [GREAT // 2 ** number for number in range(1, cap + 1)],
        [number if number % 2 else -number for number in range(cap + 2, 0, -1)],
    )


def crowded_deeds(bounds):
    """Each of these rows of keys: all put, every second one taken, all put again, all taken."""
    deeds = []
    for keys in crowded_keys(told_cap(bounds, bounds[0])):
        deeds += [("put", key, 1) for key in keys]
        deeds += [("take", key) for key in keys[::2]]
        deeds += [("put", key, 2) for key in keys]
        deeds += [("take", key) for key in keys[::-1]]
    return deeds


def told_refusal(bounds, disk, deed):
    rows = told_rows(bounds, disk)
    there = deed[1] in [thing[0] for thing in rows]
    if deed[0] == "take":
        return None if there else NoKey
    is_full = disk[2][0][1] == bounds[0] and len(rows) == told_cap(bounds, bounds[0])
    return Full if is_full and not there else None


def rows_behind(rows, deed):
    return put_into(rows, deed[1], deed[2]) if deed[0] == "put" else taken_from(rows, deed[1])


def writes_of_deed(bounds, disk, deed):
    if deed[0] == "put":
        return disk_put(bounds, copy_of(disk), deed[1], deed[2])
    return disk_take(bounds, copy_of(disk), deed[1])


class PromiseTest(unittest.TestCase):
    def run_deeds(self, make, bounds, deeds, mosts=None):
        """All deeds at one keeper or desk, some broken off; what is found and what is paid for behind each."""
        side = make(bounds, blank_disk(bounds))
        for deed in deeds:
            ahead, rows, coins = side.disk(), side.rows(), side.coins()
            most = None if mosts is None else next(mosts)
            refusal = told_refusal(bounds, ahead, deed)
            if refusal is not None:
                self.assertRaises(refusal, side.do, deed, most)
                self.assertEqual((side.disk(), side.rows(), side.coins()), (ahead, rows, coins))
                continue
            writes = writes_of_deed(bounds, ahead, deed)
            broken = most is not None and most < len(writes)
            self.assertEqual(side.do(deed, most), most if broken else len(writes))
            if broken:
                self.assert_come_up(bounds, side, told_written(ahead, writes[:most]), rows)
            else:
                self.assertEqual(side.disk(), told_written(ahead, writes))
                self.assertEqual(side.rows(), rows_behind(rows, deed))
                self.assertEqual(side.worth(deed[1]), deed[2] if deed[0] == "put" else None)
            self.assertTrue(is_disk(bounds, side.disk()))
            self.assertTrue(is_straight(told_shelf(bounds, side.disk())))
            assert_paid(self, bounds, *side.coins())
        return side

    def assert_come_up(self, bounds, side, lying, rows):
        """Behind a fall: the disk as it lay, mended, what was found ahead of the deed, and counts begun anew."""
        disk, counts = told_up(bounds, lying)
        self.assertEqual(side.disk(), disk)
        self.assertEqual(side.rows(), rows)
        self.assertEqual(side.coins(), (counts, counts[3], counts[4]))

    def test_jumping_deeds_at_keepers(self):
        for bounds in BOUNDS:
            side = self.run_deeds(AtKeeper, bounds, jumping_deeds(bounds, 600))
            self.assertEqual(side.disk()[2][0][1], bounds[0])

    def test_jumping_deeds_at_desks(self):
        for bounds in BOUNDS:
            self.run_deeds(AtDesk, bounds, jumping_deeds(bounds, 150))

    def test_crowded_deeds_at_keepers(self):
        for bounds in BOUNDS:
            self.run_deeds(AtKeeper, bounds, crowded_deeds(bounds))

    def test_crowded_deeds_at_desks(self):
        for bounds in NARROW:
            self.run_deeds(AtDesk, bounds, crowded_deeds(bounds))

    def test_falls_here_and_there_at_keepers(self):
        for bounds in BOUNDS:
            self.run_deeds(AtKeeper, bounds, jumping_deeds(bounds, 500), numbers_from(7, 12))
            self.run_deeds(AtKeeper, bounds, jumping_deeds(bounds, 200), numbers_from(7, 100))

    def test_falls_here_and_there_at_desks(self):
        for bounds in BOUNDS:
            self.run_deeds(AtDesk, bounds, jumping_deeds(bounds, 120), numbers_from(9, 20))

    def try_each_fall(self, make, bounds, disk, deed):
        """The deed broken off behind each of its writes, and done again behind that; its writes one by one."""
        rows = told_rows(bounds, disk)
        writes = writes_of_deed(bounds, disk, deed)
        for most in range(len(writes)):
            side = make(bounds, copy_of(disk))
            self.assertEqual(side.do(deed, most), most)
            self.assert_come_up(bounds, side, told_written(disk, writes[:most]), rows)
            side.do(deed)
            self.assertEqual(side.rows(), rows_behind(rows, deed))
        side = make(bounds, copy_of(disk))
        self.assertEqual(side.do(deed, len(writes)), len(writes))
        self.assertEqual(side.rows(), rows_behind(rows, deed))
        self.assertEqual(side.disk(), walk_disk(self, bounds, disk, writes, rows_behind(rows, deed)))
        return side.disk()

    def fall_in_all(self, make, bounds, deeds, each=1):
        disk = blank_disk(bounds)
        for number, deed in enumerate(deeds):
            if told_refusal(bounds, disk, deed) is None:
                if number % each == 0:
                    disk = self.try_each_fall(make, bounds, disk, deed)
                else:
                    disk = told_written(disk, writes_of_deed(bounds, disk, deed))

    def test_falls_behind_every_single_write_at_keepers(self):
        for bounds in NARROW:
            self.fall_in_all(AtKeeper, bounds, crowded_deeds(bounds))
            self.fall_in_all(AtKeeper, bounds, jumping_deeds(bounds, 200))

    def test_falls_behind_every_single_write_at_desks(self):
        for bounds in NARROW[:3]:
            self.fall_in_all(AtDesk, bounds, crowded_deeds(bounds), 3)
            self.fall_in_all(AtDesk, bounds, jumping_deeds(bounds, 60))

    def test_falls_behind_every_single_write_of_some_deeds(self):
        for bounds in BOUNDS:
            if bounds[0] < 4:
                self.fall_in_all(AtKeeper, bounds, jumping_deeds(bounds, 300), 17)

    def test_falls_behind_every_single_write_of_growing(self):
        for bounds in BOUNDS:
            for height in range(min(bounds[0], 3)):
                for disk in full_disks(bounds, height)[1::7]:
                    self.try_each_fall(AtKeeper, bounds, disk, ("put", 15, -1))

    def test_writes_one_by_one_on_many_disks(self):
        for bounds in BOUNDS:
            for disk in many_disks(bounds)[::3]:
                rows = told_rows(bounds, disk)
                for deed in [("put", 15, 3), ("put", 10, 3), ("take", 10), ("put", 5, 3), ("put", GREAT, 3)]:
                    if told_refusal(bounds, disk, deed) is None:
                        writes = writes_of_deed(bounds, disk, deed)
                        walk_disk(self, bounds, disk, writes, rows_behind(rows, deed))

    def test_two_runs_are_alike(self):
        for bounds in BOUNDS[:6]:
            one, other = [
                self.run_deeds(AtKeeper, bounds, jumping_deeds(bounds, 60), numbers_from(3, 30)) for run in range(2)
            ]
            self.assertEqual((one.disk(), one.coins()), (other.disk(), other.coins()))

    def test_deeds_at_keepers_that_come_up_full(self):
        """What was there at coming up is paid for by the excess and what was over then."""
        for bounds in BOUNDS:
            for disk in many_disks(bounds)[::4]:
                side = AtKeeper(bounds, disk)
                for key in range(5, 100, 5):
                    for deed in (("put", key, 0), ("take", key)):
                        if key % 15 and told_refusal(bounds, side.disk(), deed) is None:
                            side.do(deed)
                            assert_paid(self, bounds, *side.coins())


if __name__ == "__main__":
    unittest.main()
