"""Disks: two areas and a sign, and the writes of deeds on them."""

from gapshelf.boards import cap_of, is_whole, places_of
from gapshelf.deeds import place_of, put_writes, take_writes
from gapshelf.evening import targets
from gapshelf.shelves import held, is_sound, rows_of

SIGN_PART = 2


def blank_disk(bounds):
    size = places_of(bounds, bounds[0])
    return [[()] * size, [()] * size, [(0, 0)]]


def is_pair(thing):
    return isinstance(thing, tuple) and len(thing) == 2 and is_whole(thing[0]) and is_whole(thing[1])


def is_place(thing):
    return is_pair(thing) or (isinstance(thing, tuple) and len(thing) == 0)


def is_area(thing, size):
    return isinstance(thing, list) and len(thing) == size and all([is_place(place) for place in thing])


def is_sign(bounds, thing):
    return is_pair(thing) and 0 <= thing[0] <= 1 and 0 <= thing[1] <= bounds[0]


def has_form(bounds, thing):
    if not isinstance(thing, list) or len(thing) != 3:
        return False
    size = places_of(bounds, bounds[0])
    if not is_area(thing[0], size) or not is_area(thing[1], size):
        return False
    signs = thing[SIGN_PART]
    return isinstance(signs, list) and len(signs) == 1 and is_sign(bounds, signs[0])


def is_disk(bounds, thing):
    if not has_form(bounds, thing):
        return False
    shelf = shelf_on(bounds, thing)
    return is_sound(shelf) and len(rows_of(shelf)) <= cap_of(bounds, height_on(thing))


def area_on(disk):
    return disk[SIGN_PART][0][0]


def height_on(disk):
    return disk[SIGN_PART][0][1]


def shelf_on(bounds, disk):
    return disk[area_on(disk)][:places_of(bounds, height_on(disk))]


def written(disk, writes):
    parts = [list(part) for part in disk]
    for part, place, thing in writes:
        parts[part][place] = thing
    return parts


def on_area(area, writes):
    return [(area, place, thing) for place, thing in writes]


def must_grow(bounds, disk, key):
    shelf = shelf_on(bounds, disk)
    height = height_on(disk)
    if height == bounds[0] or held(shelf, 0, len(shelf)) < cap_of(bounds, height):
        return False
    # A new worth takes no room.
    return place_of(shelf, key) is None


def growing_writes(bounds, disk, key):
    if not must_grow(bounds, disk, key):
        return []
    other = 1 - area_on(disk)
    height = height_on(disk) + 1
    things = rows_of(shelf_on(bounds, disk))
    aims = targets(len(things), places_of(bounds, height))
    clearing = [(place, ()) for place, thing in enumerate(disk[other]) if thing != ()]
    laying = list(zip(aims, things))
    # The sign last: until then the old shelf counts, and it lies untouched.
    return on_area(other, clearing + laying) + [(SIGN_PART, 0, (other, height))]


def disk_put(bounds, disk, key, amount):
    growing = growing_writes(bounds, disk, key)
    grown = written(disk, growing)
    putting = put_writes(bounds, height_on(grown), shelf_on(bounds, grown), key, amount)
    return growing + on_area(area_on(grown), putting)


def disk_take(bounds, disk, key):
    return on_area(area_on(disk), take_writes(shelf_on(bounds, disk), key))
