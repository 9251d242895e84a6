"""Gapshelf: a shelf of sorted things with gaps, evened write by write."""
