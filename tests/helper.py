"""What several tests share: bounds, shelves made of filled places, and a look behind each single write."""

import itertools

from gapshelf.shelves import is_sound, is_straight, rows_of

GREAT = 10 ** 59
BOARDS = (1, 2, 4, 8, 16)

# Of each top, the narrowest ones and some with more room.
BOUNDS = (
    (0, 2, 1), (0, 5, 2), (1, 3, 1), (1, 6, 2), (2, 4, 1), (2, 8, 2), (3, 5, 1), (3, 11, 2), (4, 6, 1), (4, 20, 3),
)


def size_of(bounds, height):
    return BOARDS[height] * bounds[1]


def told_cap(bounds, height):
    return BOARDS[height] * (bounds[1] - bounds[2] * height)


def told_calm(bounds, height):
    return BOARDS[height] * (bounds[1] - bounds[2] * (height + 1))


def shelf_at(size, places):
    """Things at these places, with the keys 10, 20, 30 and so on, and worths that tell them apart."""
    shelf = [()] * size
    for rank, place in enumerate(sorted(places)):
        shelf[place] = (10 * (rank + 1), -rank)
    return shelf


def many_of(shelf):
    return len([thing for thing in shelf if thing])


def choices_of(size, many):
    return [list(places) for places in itertools.combinations(range(size), many)]


def all_shelves(size):
    return [shelf_at(size, places) for many in range(size + 1) for places in choices_of(size, many)]


def numbers_from(seed, below):
    """Numbers that jump about, the same in each run."""
    while True:
        seed = (seed * 1103515245 + 12345) % 2 ** 31
        yield seed // 2 ** 12 % below


def many_shelves(bounds, height):
    """Straight shelves of this height, from empty ones to full ones, filled evenly, in lumps and here and there."""
    size = size_of(bounds, height)
    shelves = [shelf_at(size, []), shelf_at(size, range(size)), shelf_at(size, range(0, size, 2))]
    for many in sorted({1, bounds[1] - 1, bounds[1], bounds[1] + 1, told_cap(bounds, height) - 1, size - 1}):
        if 0 < many <= size:
            shelves.append(shelf_at(size, range(many)))
            shelves.append(shelf_at(size, range(size - many, size)))
            shelves.append(shelf_at(size, range((size - many) // 2, (size - many) // 2 + many)))
    for seed in range(1, 13):
        jumps = numbers_from(seed, 13)
        shelves.append(shelf_at(size, [place for place in range(size) if next(jumps) < seed]))
    return shelves


def new_keys_of(shelf):
    """A key below all, one between each two, and one above all."""
    keys = [thing[0] for thing in shelf if thing]
    return [5] + [key + 5 for key in keys]


def put_into(rows, key, worth):
    return sorted([thing for thing in rows if thing[0] != key] + [(key, worth)])


def taken_from(rows, key):
    return [thing for thing in rows if thing[0] != key]


def assert_moves_a_thing(case, lying, place, thing):
    """No write covers another thing, and none clears what doesn't lie at a second place."""
    case.assertTrue(0 <= place < len(lying))
    if thing == ():
        case.assertNotEqual(lying[place], ())
        case.assertEqual(lying.count(lying[place]), 2)
    else:
        case.assertEqual(lying[place], ())
        case.assertEqual(lying.count(thing), 1)


def walk_moves(case, shelf, writes):
    """Does the writes of moves one by one; the shelf behind them."""
    ahead = [thing for thing in shelf if thing]
    lying = list(shelf)
    for place, thing in writes:
        assert_moves_a_thing(case, lying, place, thing)
        lying[place] = thing
        case.assertTrue(is_sound(lying))
        case.assertEqual(rows_of(lying), ahead)
    return lying


def walk_deed(case, shelf, writes, behind):
    """Does a deed's writes one by one: all is as it was until the last write, and as told behind it."""
    lying = walk_moves(case, shelf, writes[:-1])
    case.assertTrue(is_straight(lying))
    place, thing = writes[-1]
    case.assertTrue(0 <= place < len(lying))
    if thing == ():
        case.assertNotEqual(lying[place], ())
    elif lying[place] != ():
        case.assertEqual(lying[place][0], thing[0])
    lying[place] = thing
    case.assertTrue(is_straight(lying))
    case.assertEqual([other for other in lying if other], behind)
    case.assertEqual(rows_of(lying), behind)
    return lying


def assert_own_list(case, ask, handed, added):
    """What is told is changed, then what was handed in: neither touches the other, nor what is told next."""
    as_it_was = [list(part) for part in handed]
    told = ask(*handed)
    first_told = list(told)
    case.assertIs(told.__class__, list)
    case.assertEqual(handed, as_it_was)
    told.append(added)
    told[0] = added
    case.assertEqual(handed, as_it_was)
    again = ask(*handed)
    case.assertEqual(again, first_told)
    for part in handed:
        part.append(added)
        part[0] = added
    case.assertEqual(again, first_told)
    case.assertEqual(ask(*as_it_was), first_told)
