"""Coins: the excess of a shelf, and what is over on it."""

from gapshelf.boards import calm_of, cap_of, places_of
from gapshelf.shelves import held


def beyond(number, bound):
    return max(0, number - bound)


def excess_at(bounds, level, shelf):
    size = places_of(bounds, level)
    calm = calm_of(bounds, level)
    return sum([beyond(held(shelf, first, first + size), calm) for first in range(0, len(shelf), size)])


def excess_of(bounds, height, shelf):
    return sum([excess_at(bounds, level, shelf) for level in range(height)])


def over_of(bounds, height, shelf):
    lower_cap = 0 if height == 0 else cap_of(bounds, height - 1)
    return beyond(held(shelf, 0, len(shelf)), lower_cap)
