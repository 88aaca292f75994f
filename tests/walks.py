"""What several tests need: leaves, drawn numbers, and slow, plain ways to the same answers."""

import itertools


def across(*numbers):
    return ("chain", "across", list(numbers))


def up(*numbers):
    return ("chain", "up", list(numbers))


def lies(ware):
    w, h, turns = ware
    return [False, True] if turns and w != h else [False]


def sides(ware, lie):
    w, h, turns = ware
    return (h, w) if lie else (w, h)


def overlap(one, other):
    return one[0] < other[2] and other[0] < one[2] and one[1] < other[3] and other[1] < one[3]


def packings(box, wares, spots=()):
    """All packings, each a tuple of places, by a walk over all places."""
    if len(spots) == len(wares):
        yield ()
        return
    ware = wares[len(spots)]
    for lie in lies(ware):
        w, h = sides(ware, lie)
        for x, y in itertools.product(range(box[0] - w + 1), range(box[1] - h + 1)):
            spot = (x, y, x + w, y + h)
            if not any(overlap(spot, other) for other in spots):
                for rest in packings(box, wares, spots + (spot,)):
                    yield ((x, y, lie),) + rest


def has_packing(box, wares):
    return next(packings(box, wares), None) is not None


def small_wares(count, most, turns=(False, True)):
    """All lists of so many wares with sides up to most, the sides of each list rising."""
    kinds = [(w, h, t) for w in range(1, most + 1) for h in range(1, most + 1) for t in turns if w != h or not t]
    for wares in itertools.combinations_with_replacement(kinds, count):
        yield list(wares)


class Numbers:
    """A row of numbers that looks drawn but is the same in every run."""

    def __init__(self, seed):
        self.state = seed

    def upto(self, least, most):
        self.state = (self.state * 6364136223846793005 + 1442695040888963407) % (1 << 64)
        return least + (self.state >> 33) % (most - least + 1)

    def truth(self):
        return self.upto(0, 1) == 1

    def wares(self, count, most):
        return [(self.upto(1, most), self.upto(1, most), self.truth()) for k in range(count)]
