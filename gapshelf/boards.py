"""Bounds, boards and stretches."""

GREATEST_TOP = 4
GREATEST_WIDTH = 20


def is_whole(thing):
    # To Python a truth is an int as well; here it is no number.
    return isinstance(thing, int) and not isinstance(thing, bool)


def is_bounds(thing):
    if not isinstance(thing, tuple) or len(thing) != 3:
        return False
    if not all([is_whole(part) for part in thing]):
        return False
    return are_in_range(thing[0], thing[1], thing[2])


def are_in_range(top, width, step):
    if not 0 <= top <= GREATEST_TOP or not 1 <= width <= GREATEST_WIDTH:
        return False
    return step >= 1 and width >= step * (top + 2)


def twofold(height):
    power = 1
    for doubling in range(height):
        power = power * 2
    return power


def places_of(bounds, height):
    width = bounds[1]
    return twofold(height) * width


def stretch_of(bounds, height, place):
    size = places_of(bounds, height)
    first = place // size * size
    return (first, first + size)


def cap_of(bounds, height):
    width = bounds[1]
    step = bounds[2]
    return twofold(height) * (width - step * height)


def calm_of(bounds, height):
    width = bounds[1]
    step = bounds[2]
    return twofold(height) * (width - step * (height + 1))
