"""The desk: rows of words, answered with texts."""

from gapshelf.boards import is_bounds
from gapshelf.disks import blank_disk
from gapshelf.errors import BadBounds, NoRow, NoText
from gapshelf.keeper import Keeper
from gapshelf.texts import read_disk, read_number, write_disk, write_number

USUAL_BOUNDS = (2, 8, 2)
LOAD = "load "


def number_in(word):
    # In a row a bad number makes the row none, whatever the reading says of it.
    try:
        return read_number(word)
    except NoText:
        raise NoRow("a number is asked for here") from None


def numbers_in(words, many):
    if len(words) != many:
        raise NoRow("this row has other words")
    return [number_in(word) for word in words]


def most_in(words):
    if words == []:
        return None
    if len(words) != 2 or words[0] != "most":
        raise NoRow("behind a deed stands most N, or nothing")
    most = number_in(words[1])
    if most < 0:
        raise NoRow("most is a number from 0 on")
    return most


def write_row(thing):
    return write_number(thing[0]) + ":" + write_number(thing[1])


def write_rows(rows):
    return "-" if rows == [] else " ".join([write_row(thing) for thing in rows])


class Desk:
    def __init__(self, bounds=None):
        self.bounds = USUAL_BOUNDS if bounds is None else bounds
        # Ahead of the blank disk, which can't be made of what are no bounds.
        if not is_bounds(self.bounds):
            raise BadBounds("these are no bounds")
        self.keeper = Keeper(self.bounds, blank_disk(self.bounds))

    def say(self, row):
        if not isinstance(row, str):
            raise NoRow("a row is a text")
        if row.startswith(LOAD):
            return self.load(row[len(LOAD):])
        words = row.split(" ")
        if words[0] == "put":
            return self.say_put(words[1:])
        if words[0] == "take":
            return self.say_take(words[1:])
        if words[0] == "get":
            return self.say_get(words[1:])
        return self.say_word(row)

    def load(self, text):
        self.keeper = Keeper(self.bounds, read_disk(text))
        return "ok"

    def say_put(self, words):
        numbers = numbers_in(words[:2], 2)
        most = most_in(words[2:])
        return write_number(self.keeper.put(numbers[0], numbers[1], most))

    def say_take(self, words):
        numbers = numbers_in(words[:1], 1)
        most = most_in(words[1:])
        return write_number(self.keeper.take(numbers[0], most))

    def say_get(self, words):
        worth = self.keeper.get(numbers_in(words, 1)[0])
        return "none" if worth is None else write_number(worth)

    def say_word(self, word):
        if word == "rows":
            return write_rows(self.keeper.rows())
        if word == "disk":
            return write_disk(self.keeper.disk())
        if word == "counts":
            return " ".join([write_number(number) for number in self.keeper.counts()])
        if word == "excess":
            return write_number(self.keeper.excess())
        if word == "over":
            return write_number(self.keeper.over())
        raise NoRow("this row isn't known")
