"""Weighings: numbers that together are at most the side weigh together at most the whole."""

from cratefit.errors import NoWeighing
from cratefit.wares import check_side, is_whole

MOST_PARTS = 60


class Weighing:
    def __init__(self, side):
        self.side = side

    def weigh(self, x):
        check_side(x, 0, self.side)
        return self.weight(x)

    def weight(self, x):
        return x

    def whole(self):
        return self.weigh(self.side)

    def named(self):
        return ("plain",)


class Floors(Weighing):
    def __init__(self, side, step):
        Weighing.__init__(self, side)
        self.step = step

    def weight(self, x):
        return x // self.step

    def named(self):
        return ("floors", self.step)


class Heavy(Weighing):
    def __init__(self, side, step):
        Weighing.__init__(self, side)
        self.step = step

    def weight(self, x):
        if x < self.step:
            return 0
        return self.side if x > self.side - self.step else x

    def named(self):
        return ("heavy", self.step)


class Parts(Weighing):
    def __init__(self, side, step):
        Weighing.__init__(self, side)
        self.step = step

    def weight(self, x):
        count, rest = divmod((self.step + 1) * x, self.side)
        return self.step * x if rest == 0 else self.side * count

    def named(self):
        return ("parts", self.step)


class Matched(Weighing):
    def __init__(self, side, step):
        Weighing.__init__(self, side)
        self.step = step

    def weight(self, x):
        count = self.side // self.step
        if 2 * x > self.side:
            return 2 * (count - (self.side - x) // self.step)
        return count if 2 * x == self.side else 2 * (x // self.step)

    def named(self):
        return ("matched", self.step)


class Nested(Weighing):
    def __init__(self, inner, outer):
        Weighing.__init__(self, inner.side)
        self.inner = inner
        self.outer = outer

    def weight(self, x):
        return self.outer.weigh(self.inner.weigh(x))

    def named(self):
        return ("nested", self.inner.named(), self.outer.named())


def check_step(step, most):
    if not is_whole(step) or step < 1 or step > most:
        raise NoWeighing(f"the number of a row is a whole number from 1 to {most}")


def made_nested(side, row, other):
    inner = made_weighing(side, row)
    return Nested(inner, made_weighing(inner.whole(), other))


def made_stepped(side, word, step):
    check_step(step, MOST_PARTS if word == "parts" else side)
    if word == "floors":
        return Floors(side, step)
    if word == "heavy":
        return Heavy(side, step)
    if word == "parts":
        return Parts(side, step)
    return Matched(side, step)


def made_weighing(side, row):
    if side < 1:
        raise NoWeighing("a side of nought has no weighing")
    if row == ("plain",):
        return Weighing(side)
    if isinstance(row, tuple) and len(row) == 3 and row[0] == "nested":
        return made_nested(side, row[1], row[2])
    if isinstance(row, tuple) and len(row) == 2 and row[0] in ("floors", "heavy", "parts", "matched"):
        return made_stepped(side, row[0], row[1])
    raise NoWeighing("a row is of one of the told forms")
