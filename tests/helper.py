"""What several tests share: bounds, shelves, disks, the words of the promises, and a look behind each single write."""

import itertools

from gapshelf.disks import is_disk
from gapshelf.shelves import is_sound, is_straight, rows_of

GREAT = 10 ** 59
BOARDS = (1, 2, 4, 8, 16)

# Of each top, the narrowest ones and some with more room.
BOUNDS = (
    (0, 2, 1), (0, 5, 2), (1, 3, 1), (1, 6, 2), (2, 4, 1), (2, 8, 2), (3, 5, 1), (3, 11, 2), (4, 6, 1), (4, 20, 3),
)

NO_BOUNDS = (
    (), (2, 8), (2, 8, 2, 2), (-1, 8, 2), (5, 20, 1), (2, 0, 1), (2, 21, 1), (2, 8, 0), (2, 8, -1), (2, 7, 2),
    (2, 8, 3), (True, 8, 2), (2, 8, True), ("2", 8, 2), (2, None, 2), [2, 8, 2], 0, 8, "", "2 8 2", True, False, {},
    [], ((2, 8, 2),),
)

# What lies about where it doesn't count: in no order, over and over.
LEFT_ABOUT = ((10, 5), (), (-3, 1), (10, 5), (), (), (GREAT, -GREAT))


def size_of(bounds, height):
    return BOARDS[height] * bounds[1]


def told_cap(bounds, height):
    return BOARDS[height] * (bounds[1] - bounds[2] * height)


def told_calm(bounds, height):
    return BOARDS[height] * (bounds[1] - bounds[2] * (height + 1))


def shelf_at(size, places):
    """Things at these places, with the keys 10, 20, 30 and so on, and worths that tell them apart."""
    shelf = [()] * size
    for rank, place in enumerate(sorted(places)):
        shelf[place] = (10 * (rank + 1), -rank)
    return shelf


def many_of(shelf):
    return len([thing for thing in shelf if thing])


def choices_of(size, many):
    return [list(places) for places in itertools.combinations(range(size), many)]


def all_shelves(size):
    return [shelf_at(size, places) for many in range(size + 1) for places in choices_of(size, many)]


def numbers_from(seed, below):
    """Numbers that jump about, the same in each run."""
    while True:
        seed = (seed * 1103515245 + 12345) % 2 ** 31
        yield seed // 2 ** 12 % below


def many_shelves(bounds, height):
    """Straight shelves of this height, from empty ones to full ones, filled evenly, in lumps and here and there."""
    size = size_of(bounds, height)
    shelves = [shelf_at(size, []), shelf_at(size, range(size)), shelf_at(size, range(0, size, 2))]
    for many in sorted({1, bounds[1] - 1, bounds[1], bounds[1] + 1, told_cap(bounds, height) - 1, size - 1}):
        if 0 < many <= size:
            shelves.append(shelf_at(size, range(many)))
            shelves.append(shelf_at(size, range(size - many, size)))
            shelves.append(shelf_at(size, range((size - many) // 2, (size - many) // 2 + many)))
    for seed in range(1, 13):
        jumps = numbers_from(seed, 13)
        shelves.append(shelf_at(size, [place for place in range(size) if next(jumps) < seed]))
    return shelves


def new_keys_of(shelf):
    """A key below all, one between each two, and one above all."""
    keys = [thing[0] for thing in shelf if thing]
    return [5] + [key + 5 for key in keys]


def told_seat(shelf, key):
    return max([place for place, thing in enumerate(shelf) if thing and thing[0] < key], default=0)


def told_stretch(bounds, level, place):
    size = size_of(bounds, level)
    return [(first, first + size) for first in range(0, place + 1, size) if place < first + size][0]


def told_height(bounds, height, shelf, key):
    roomy = []
    for level in range(height + 1):
        first, behind = told_stretch(bounds, level, told_seat(shelf, key))
        if len([thing for thing in shelf[first:behind] if thing]) < told_cap(bounds, level):
            roomy.append(level)
    return min(roomy)


def told_put(bounds, height, shelf, key, worth):
    """The writes of a put of a new key, by the words of the promise."""
    first, behind = told_stretch(bounds, told_height(bounds, height, shelf, key), told_seat(shelf, key))
    old = [thing for thing in shelf[first:behind] if thing]
    things = sorted(old + [(key, worth)])
    aim = {thing: first + rank * (behind - first) // len(things) for rank, thing in enumerate(things)}
    going_on = [thing for thing in old if aim[thing] > shelf.index(thing)]
    going_back = [thing for thing in old if aim[thing] < shelf.index(thing)]
    writes = []
    for thing in going_on[::-1] + going_back:
        writes += [(aim[thing], thing), (shelf.index(thing), ())]
    return writes + [(aim[(key, worth)], (key, worth))]


def told_excess(bounds, height, shelf):
    """The words of the promise, stretch by stretch."""
    excess = 0
    for level in range(height):
        size = size_of(bounds, level)
        for first in range(0, len(shelf), size):
            many = many_of(shelf[first:first + size])
            if many > told_calm(bounds, level):
                excess += many - told_calm(bounds, level)
    return excess


def told_over(bounds, height, shelf):
    cap = told_cap(bounds, height - 1) if height > 0 else 0
    return many_of(shelf) - cap if many_of(shelf) > cap else 0


def disk_with(bounds, which, height, shelf, left_about=True):
    """A disk on which this shelf counts, with things left about behind it and in the other area, or none."""
    size = size_of(bounds, bounds[0])
    left = [LEFT_ABOUT[place % len(LEFT_ABOUT)] if left_about else () for place in range(size)]
    counting = list(shelf) + left[len(shelf):]
    return [counting, left, [(0, height)]] if which == 0 else [left, counting, [(1, height)]]


def many_disks(bounds):
    """Sound disks with straight shelves of all heights, in either area, with things left about and without."""
    disks = []
    for height in range(bounds[0] + 1):
        for number, shelf in enumerate(many_shelves(bounds, height)):
            if many_of(shelf) <= told_cap(bounds, height):
                disks.append(disk_with(bounds, number % 2, height, shelf, number % 4 < 2))
                disks.append(disk_with(bounds, 1 - number % 2, height, shelf, number % 4 < 2))
    return disks


def full_disks(bounds, height):
    """Disks whose shelf has its cap of things: packed at either end, spread, and with gaps here and there."""
    size, cap = size_of(bounds, height), told_cap(bounds, height)
    jumps = numbers_from(height + 1, size)
    some = list(range(size))
    while len(some) > cap:
        some.pop(next(jumps) % len(some))
    choices = (range(cap), range(size - cap, size), [rank * size // cap for rank in range(cap)], some)
    return [
        disk_with(bounds, which, height, shelf_at(size, places), left_about)
        for places in choices for which in (0, 1) for left_about in (True, False)
    ]


def copy_of(disk):
    return [list(part) for part in disk]


def told_shelf(bounds, disk):
    which, height = disk[2][0]
    return disk[which][:size_of(bounds, height)]


def told_rows(bounds, disk):
    """Of a disk whose shelf is straight."""
    return [thing for thing in told_shelf(bounds, disk) if thing]


def told_written(disk, writes):
    behind = copy_of(disk)
    for part, place, thing in writes:
        behind[part][place] = thing
    return behind


def told_growing(bounds, disk):
    which, height = disk[2][0]
    other = 1 - which
    things = told_rows(bounds, disk)
    writes = [(other, place, ()) for place in range(len(disk[other])) if disk[other][place] != ()]
    for rank, thing in enumerate(things):
        writes.append((other, rank * size_of(bounds, height + 1) // len(things), thing))
    return writes + [(2, 0, (other, height + 1))]


def told_disk_put(bounds, disk, key, worth):
    """The writes of a put that isn't refused, by the words of the promise."""
    which, height = disk[2][0]
    shelf = told_shelf(bounds, disk)
    for place, thing in enumerate(shelf):
        if thing and thing[0] == key:
            return [(which, place, (key, worth))]
    if many_of(shelf) == told_cap(bounds, height):
        growing = told_growing(bounds, disk)
        return growing + told_disk_put(bounds, told_written(disk, growing), key, worth)
    return [(which, place, thing) for place, thing in told_put(bounds, height, shelf, key, worth)]


def told_disk_take(bounds, disk, key):
    which = disk[2][0][0]
    keys = [thing[0] if thing else None for thing in told_shelf(bounds, disk)]
    return [(which, keys.index(key), ())]


def told_up(bounds, disk):
    """The disk behind a coming up, and the five counts then."""
    shelf = told_shelf(bounds, disk)
    which, height = disk[2][0]
    up = copy_of(disk)
    for place, thing in enumerate(shelf):
        if thing and thing in shelf[:place]:
            up[which][place] = ()
    mended = told_shelf(bounds, up)
    return up, (0, 0, 0, told_excess(bounds, height, mended), told_over(bounds, height, mended))


def told_counts(bounds, disk, key, writes, counts):
    """The counts behind a put, all of whose writes are done."""
    puts, moves, laid, excess, over = counts
    if key in [thing[0] for thing in told_rows(bounds, disk)]:
        return counts
    signs = [number for number, write in enumerate(writes) if write[0] == 2]
    if signs:
        laid += len(told_rows(bounds, disk))
    of_put = writes[signs[0] + 1:] if signs else writes
    moves += len([write for write in of_put if write[2] == ()])
    return (puts + 1, moves, laid, excess, over)


def put_into(rows, key, worth):
    return sorted([thing for thing in rows if thing[0] != key] + [(key, worth)])


def taken_from(rows, key):
    return [thing for thing in rows if thing[0] != key]


def assert_moves_a_thing(case, lying, place, thing):
    """No write covers another thing, and none clears what doesn't lie at a second place."""
    case.assertTrue(0 <= place < len(lying))
    if thing == ():
        case.assertNotEqual(lying[place], ())
        case.assertEqual(lying.count(lying[place]), 2)
    else:
        case.assertEqual(lying[place], ())
        case.assertEqual(lying.count(thing), 1)


def walk_moves(case, shelf, writes):
    """Does the writes of moves one by one; the shelf behind them."""
    ahead = [thing for thing in shelf if thing]
    lying = list(shelf)
    for place, thing in writes:
        assert_moves_a_thing(case, lying, place, thing)
        lying[place] = thing
        case.assertTrue(is_sound(lying))
        case.assertEqual(rows_of(lying), ahead)
    return lying


def walk_deed(case, shelf, writes, behind):
    """Does a deed's writes one by one: all is as it was until the last write, and as told behind it."""
    lying = walk_moves(case, shelf, writes[:-1])
    case.assertTrue(is_straight(lying))
    place, thing = writes[-1]
    case.assertTrue(0 <= place < len(lying))
    if thing == ():
        case.assertNotEqual(lying[place], ())
    elif lying[place] != ():
        case.assertEqual(lying[place][0], thing[0])
    lying[place] = thing
    case.assertTrue(is_straight(lying))
    case.assertEqual([other for other in lying if other], behind)
    case.assertEqual(rows_of(lying), behind)
    return lying


def walk_disk(case, bounds, disk, writes, behind):
    """Does a deed's writes on a disk one by one: all is as it was until the last write, and as told behind it."""
    ahead = told_rows(bounds, disk)
    lying = copy_of(disk)
    for number, (part, place, thing) in enumerate(writes):
        last = number == len(writes) - 1
        shelf = told_shelf(bounds, lying)
        if part == lying[2][0][0] and not last:
            assert_moves_a_thing(case, shelf, place, thing)
        elif last:
            walk_deed(case, shelf, [(place, thing)], behind)
        lying[part][place] = thing
        case.assertTrue(is_disk(bounds, copy_of(lying)))
        case.assertEqual(rows_of(told_shelf(bounds, lying)), behind if last else ahead)
    return lying


def assert_paid(case, bounds, counts, excess, over):
    """Both sentences on what is paid for."""
    top, width, step = bounds
    puts, moves, laid, first_excess, first_over = counts
    paid = (step * width + 2 * width * top) * puts + 2 * width * first_excess
    case.assertLessEqual(step * moves + 2 * width * excess, paid)
    case.assertLessEqual(laid + 4 * over, 4 * puts + 4 * first_over)


def assert_own_list(case, ask, handed, added):
    """What is told is changed, then what was handed in: neither touches the other, nor what is told next."""
    as_it_was = [list(part) for part in handed]
    told = ask(*handed)
    first_told = list(told)
    case.assertIs(told.__class__, list)
    case.assertEqual(handed, as_it_was)
    told.append(added)
    told[0] = added
    case.assertEqual(handed, as_it_was)
    again = ask(*handed)
    case.assertEqual(again, first_told)
    for part in handed:
        part.append(added)
        part[0] = added
    case.assertEqual(again, first_told)
    case.assertEqual(ask(*as_it_was), first_told)
