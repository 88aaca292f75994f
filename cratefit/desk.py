"""A desk that holds a case and is talked to by rows of text."""

from cratefit.bars import bar
from cratefit.errors import Full, NoDeed, NoText, NothingDone, NoWare
from cratefit.papers import leaves
from cratefit.search import fit
from cratefit.shelves import shelved
from cratefit.strips import lowest
from cratefit.texts import read_box, read_case, read_number, read_ware, shown_case, table
from cratefit.wares import is_number_of

MOST_WARES = 20
MOST_FIGURES = 6


def read_rest(word, rest):
    try:
        if word == "box":
            return read_box(rest)
        if word == "put":
            return read_ware(rest)
        if word == "drop" and len(rest) <= MOST_FIGURES:
            return read_number(rest)
    except NoText:
        raise NoDeed("what stands behind the word is not written as it should be") from None
    raise NoDeed("there is no such row")


def fit_answer(box, wares):
    told = fit(box, wares)
    if told[0] == "places":
        return ["placed"] + table(told[1])
    count = leaves(told[1])
    return [f"barred {count}"]


def shown_row(row):
    return " ".join([str(part) for part in row])


def bar_answer(box, wares):
    paper = bar(box, wares)
    if paper is None:
        return ["open"]
    if paper[0] == "long":
        return [shown_row(paper)]
    across = shown_row(paper[1])
    up = shown_row(paper[2])
    return [f"weights {across} / {up}"]


def low_answer(box, wares):
    height, places, paper = lowest(box[0], wares)
    return [f"low {height}"] + table(places)


def shelf_answer(box, wares, word):
    if word not in ("next", "first", "best"):
        raise NoDeed("a shelf is asked for by next, first or best")
    height, places = shelved(box[0], wares, word)
    return [f"shelf {height}"] + table(places)


def answer_to(word, box, wares):
    if word == "fit":
        return fit_answer(box, wares)
    if word == "bar":
        return bar_answer(box, wares)
    if word == "low":
        return low_answer(box, wares)
    raise NoDeed("there is no such row")


class Desk:
    def __init__(self, start="10x10:"):
        box, wares = read_case(start)
        self.box = box
        self.wares = wares
        self.past = []

    def case(self):
        return shown_case(self.box, self.wares)

    def steps(self):
        return len(self.past)

    def do(self, line):
        word, blank, rest = line.partition(" ")
        if blank == "":
            return self.undone() if word == "undo" else answer_to(word, self.box, self.wares)
        if word == "shelf":
            return shelf_answer(self.box, self.wares, rest)
        return self.done(word, read_rest(word, rest))

    def done(self, word, thing):
        if word == "box":
            return self.changed(thing, self.wares)
        if word == "put":
            if len(self.wares) >= MOST_WARES:
                raise Full("the desk has no room for another ware")
            return self.changed(self.box, self.wares + [thing])
        if not is_number_of(self.wares, thing):
            raise NoWare("no ware has this number")
        return self.changed(self.box, self.wares[:thing] + self.wares[thing + 1:])

    def changed(self, box, wares):
        self.past.append((self.box, self.wares))
        self.box = box
        self.wares = wares
        return [self.case()]

    def undone(self):
        if len(self.past) == 0:
            raise NothingDone("nothing is left to undo")
        box, wares = self.past.pop()
        self.box = box
        self.wares = wares
        return [self.case()]
