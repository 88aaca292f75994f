"""Wares and cases written and read, and the table of places."""

from cratefit.errors import BadSide, NoText
from cratefit.wares import made_box, made_ware

FIGURES = "0123456789"

# The greatest number that a text may hold, a box's side of 10 ** 42, has so many.
MOST_FIGURES = 43


def shown_ware(ware):
    w, h, turns = ware
    mark = "+" if turns else ""
    return f"{w}x{h}{mark}"


def shown_case(box, wares):
    w, h = box
    return " ".join([f"{w}x{h}:"] + [shown_ware(ware) for ware in wares])


def read_number(text):
    # The length is asked first: Python's int fails at very many figures.
    if len(text) == 0 or len(text) > MOST_FIGURES:
        raise NoText("a number is missing or too long")
    # Python's int also takes signs, blanks, underscores and foreign figures.
    if any([sign not in FIGURES for sign in text]):
        raise NoText("a number has figures alone")
    if text[0] == "0" and text != "0":
        raise NoText("a number has no 0 ahead")
    return int(text)


def read_sides(text):
    # Where no x stands, the second part is empty and so is refused as a number.
    across, cross, up = text.partition("x")
    return (read_number(across), read_number(up))


def read_ware(text):
    turns = text.endswith("+")
    w, h = read_sides(text[:-1] if turns else text)
    try:
        return made_ware(w, h, turns)
    except BadSide:
        raise NoText("a ware's side is out of its range") from None


def read_box(text):
    w, h = read_sides(text)
    try:
        return made_box(w, h)
    except BadSide:
        raise NoText("a box's side is out of its range") from None


def read_case(text):
    head, colon, tail = text.partition(":")
    if colon == "":
        raise NoText("a case has a colon behind its box")
    box = read_box(head)
    # One blank stands ahead of each ware, so the first word behind the colon is empty.
    words = tail.split(" ")
    if words[0] != "":
        raise NoText("a ware has a blank ahead of it")
    return (box, [read_ware(word) for word in words[1:]])


def row_of(number, place):
    x, y, lie = place
    return (str(number), str(x), str(y), "turned" if lie else "flat")


def length_of(rows, column):
    return max([len(row[column]) for row in rows], default=0)


def table(places):
    rows = [row_of(number, place) for number, place in enumerate(places)]
    lengths = [length_of(rows, column) for column in range(4)]
    told = []
    for row in rows:
        cells = [row[column].rjust(lengths[column]) for column in range(3)]
        cells.append(row[3].ljust(lengths[3]))
        told.append(" ".join(cells))
    return told
