"""Shelves: wares laid side by side on shelves that stand on one another."""

from cratefit.errors import NoPicker, TooWide
from cratefit.wares import by_height


class Shelver:
    def pick(self, rooms, w):
        return len(rooms) - 1 if len(rooms) > 0 and rooms[-1] >= w else None


class FirstShelver(Shelver):
    def pick(self, rooms, w):
        for number, room in enumerate(rooms):
            if room >= w:
                return number
        return None


class BestShelver(Shelver):
    def pick(self, rooms, w):
        wide = [(room, number) for number, room in enumerate(rooms) if room >= w]
        return min(wide)[1] if len(wide) > 0 else None


def shelver_of(word):
    if word == "next":
        return Shelver()
    if word == "first":
        return FirstShelver()
    if word == "best":
        return BestShelver()
    raise NoPicker("a picker is next, first or best")


def check_widths(width, wares):
    for k, ware in enumerate(wares):
        if ware[0] > width:
            raise TooWide(k)


def shelved(width, wares, word="next"):
    shelver = shelver_of(word)
    check_widths(width, wares)
    rooms = []
    floors = []
    height = 0
    places = [None] * len(wares)
    for k in by_height(wares):
        w, h, turns = wares[k]
        number = shelver.pick(list(rooms), w)
        if number is None:
            number = len(rooms)
            rooms.append(width)
            floors.append(height)
            height += h
        places[k] = (width - rooms[number], floors[number], False)
        rooms[number] -= w
    return (height, places)
