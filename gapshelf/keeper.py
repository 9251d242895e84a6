"""The keeper: deeds done on a disk, perhaps broken off, and counted."""

from gapshelf.boards import is_bounds
from gapshelf.coins import excess_of, over_of
from gapshelf.deeds import place_of
from gapshelf.disks import area_on, disk_put, disk_take, growing_writes, height_on, is_disk, on_area, shelf_on, written
from gapshelf.errors import BadBounds, BadDisk
from gapshelf.shelves import rows_of, second_place


def mending_writes(bounds, disk):
    second = second_place(shelf_on(bounds, disk))
    if second is None:
        return []
    return on_area(area_on(disk), [(second, ())])


class Keeper:
    def __init__(self, bounds, disk):
        if not is_bounds(bounds):
            raise BadBounds("these are no bounds")
        if not is_disk(bounds, disk):
            raise BadDisk("this is no sound disk of these bounds")
        self.bounds = bounds
        self.come_up(disk)

    def come_up(self, disk):
        self.lying = written(disk, mending_writes(self.bounds, disk))
        self.puts = 0
        self.moves = 0
        self.laid = 0
        self.first_excess = self.excess()
        self.first_over = self.over()

    def shelf(self):
        return shelf_on(self.bounds, self.lying)

    def put(self, key, amount, most=None):
        writes = disk_put(self.bounds, self.lying, key, amount)
        growing = growing_writes(self.bounds, self.lying, key)
        new = 1 if self.get(key) is None else 0
        laid = 0 if growing == [] else len(self.rows())
        many = self.do_writes(writes, most)
        # A deed that was broken off isn't counted: all counts have begun anew.
        if many == len(writes):
            self.puts = self.puts + new
            # Each move is two writes; the last write lays the thing itself.
            self.moves = self.moves + (len(writes) - len(growing)) // 2
            self.laid = self.laid + laid
        return many

    def take(self, key, most=None):
        return self.do_writes(disk_take(self.bounds, self.lying, key), most)

    def do_writes(self, writes, most):
        # Not below 0: a slice would count that from the writes' end.
        many = len(writes) if most is None else max(0, min(most, len(writes)))
        lying = written(self.lying, writes[:many])
        if many < len(writes):
            self.come_up(lying)
        else:
            self.lying = lying
        return many

    def get(self, key):
        shelf = self.shelf()
        place = place_of(shelf, key)
        return None if place is None else shelf[place][1]

    def rows(self):
        return rows_of(self.shelf())

    def disk(self):
        return written(self.lying, [])

    def counts(self):
        return (self.puts, self.moves, self.laid, self.first_excess, self.first_over)

    def excess(self):
        return excess_of(self.bounds, height_on(self.lying), self.shelf())

    def over(self):
        return over_of(self.bounds, height_on(self.lying), self.shelf())
