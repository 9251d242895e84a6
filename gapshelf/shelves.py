"""Shelves, what is found on them, and writes."""


def is_straight(shelf):
    keys = [thing[0] for thing in shelf if thing != ()]
    return all([key < farther for key, farther in zip(keys, keys[1:])])


def is_sound(shelf):
    # Mending clears one place at most, so whatever else is wrong is still there behind it.
    return is_straight(mended(shelf))


def second_place(shelf):
    last = ()
    for place, thing in enumerate(shelf):
        if thing != () and thing == last:
            return place
        if thing != ():
            last = thing
    return None


def mended(shelf):
    second = second_place(shelf)
    if second is None:
        return list(shelf)
    return done(shelf, [(second, ())])


def rows_of(shelf):
    return [thing for thing in mended(shelf) if thing != ()]


def held(shelf, first, behind):
    # Not a slice: a first place below 0 would count from the shelf's end.
    return len([thing for place, thing in enumerate(shelf) if first <= place < behind and thing != ()])


def done(shelf, writes):
    places = list(shelf)
    for place, thing in writes:
        places[place] = thing
    return places
