"""Deeds on a shelf: the writes of a put and of a take."""

from gapshelf.boards import cap_of, stretch_of
from gapshelf.errors import Full, NoKey
from gapshelf.evening import moves_of, targets, writes_of
from gapshelf.shelves import held


def place_of(shelf, key):
    for place, thing in enumerate(shelf):
        if thing != () and thing[0] == key:
            return place
    return None


def seat_of(shelf, key):
    seat = 0
    for place, thing in enumerate(shelf):
        if thing != () and thing[0] < key:
            seat = place
    return seat


def height_for(bounds, height, shelf, key):
    seat = seat_of(shelf, key)
    for level in range(height + 1):
        stretch = stretch_of(bounds, level, seat)
        if held(shelf, stretch[0], stretch[1]) < cap_of(bounds, level):
            return level
    return None


def put_writes(bounds, height, shelf, key, amount):
    place = place_of(shelf, key)
    # Ahead of the cap: a new worth takes no room.
    if place is not None:
        return [(place, (key, amount))]
    if held(shelf, 0, len(shelf)) >= cap_of(bounds, height):
        raise Full("the shelf holds its cap of things")
    level = height_for(bounds, height, shelf, key)
    return evening_writes(shelf, stretch_of(bounds, level, seat_of(shelf, key)), (key, amount))


def evening_writes(shelf, stretch, thing):
    first = stretch[0]
    behind = stretch[1]
    places = [place for place in range(first, behind) if shelf[place] != ()]
    aims = [first + target for target in targets(len(places) + 1, behind - first)]
    lesser = [place for place in places if shelf[place][0] < thing[0]]
    aim = aims.pop(len(lesser))
    return writes_of(shelf, moves_of(places, aims)) + [(aim, thing)]


def take_writes(shelf, key):
    place = place_of(shelf, key)
    if place is None:
        raise NoKey("the key isn't there")
    return [(place, ())]
