"""Numbers and disks as texts, written and read."""

from gapshelf.errors import NoText

FIGURES = "0123456789"
MOST_FIGURES = 60
EMPTY_PLACE = "."


def write_number(number):
    return str(number)


def are_figures(text):
    return 1 <= len(text) <= MOST_FIGURES and all([sign in FIGURES for sign in text])


def is_number_text(text):
    if text == "0":
        return True
    figures = text[1:] if text.startswith("-") else text
    return are_figures(figures) and not figures.startswith("0")


def read_number(text):
    if not isinstance(text, str) or not is_number_text(text):
        raise NoText("this is no number")
    return int(text)


def write_pair(pair):
    return write_number(pair[0]) + "," + write_number(pair[1])


def read_pair(text):
    words = text.split(",")
    if len(words) != 2:
        raise NoText("this is no pair of numbers")
    return (read_number(words[0]), read_number(words[1]))


def write_place(thing):
    return EMPTY_PLACE if thing == () else write_pair(thing)


def read_place(text):
    return () if text == EMPTY_PLACE else read_pair(text)


def write_area(area):
    return " ".join([write_place(thing) for thing in area])


def read_area(text):
    return [read_place(word) for word in text.split(" ")]


def write_disk(disk):
    return " / ".join([write_area(disk[0]), write_area(disk[1]), write_pair(disk[2][0])])


def read_disk(text):
    if not isinstance(text, str):
        raise NoText("this is no text")
    parts = text.split(" / ")
    if len(parts) != 3:
        raise NoText("a disk is two areas and a sign")
    return [read_area(parts[0]), read_area(parts[1]), [read_pair(parts[2])]]
