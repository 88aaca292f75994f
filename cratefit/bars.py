"""Quick bars: wares that are too long, and wares that weigh too much together."""

from cratefit.errors import NoWeighing
from cratefit.relations import related, starts_of
from cratefit.wares import check_count, is_number_of, lies_of, sides_of
from cratefit.weighings import made_weighing

MOST_WARES = 6


def fitting_sides(box, ware):
    sides = [sides_of(ware, lie) for lie in lies_of(ware)]
    return [(w, h) for w, h in sides if w <= box[0] and h <= box[1]]


def is_long(box, ware):
    return len(fitting_sides(box, ware)) == 0


def first_long(box, wares):
    for k, ware in enumerate(wares):
        if is_long(box, ware):
            return k
    return None


def weight_of(box, ware, across, up):
    products = [across.weigh(w) * up.weigh(h) for w, h in fitting_sides(box, ware)]
    return min(products, default=None)


def weigh_too_much(box, wares, across, up):
    total = sum([weight_of(box, ware, across, up) for ware in wares])
    return total > across.whole() * up.whole()


def tried(side, wares):
    rows = [("plain",), ("parts", 1), ("parts", 2)]
    for s in sorted(set([ware[0] for ware in wares] + [ware[1] for ware in wares])):
        if 2 * s <= side:
            rows.append(("heavy", s))
            rows.append(("matched", s))
    return rows


def bar(box, wares):
    check_count(wares, MOST_WARES)
    k = first_long(box, wares)
    if k is not None:
        return ("long", k)
    # Without wares a side may be nought, and then there are no weighings.
    if len(wares) == 0:
        return None
    ups = [made_weighing(box[1], row) for row in tried(box[1], wares)]
    for row in tried(box[0], wares):
        across = made_weighing(box[0], row)
        for up in ups:
            if weigh_too_much(box, wares, across, up):
                return ("weights", row, up.named())
    return None


def rows_bar(box, wares, row, other):
    if first_long(box, wares) is not None:
        return False
    try:
        across = made_weighing(box[0], row)
        up = made_weighing(box[1], other)
    except NoWeighing:
        return False
    return weigh_too_much(box, wares, across, up)


def bars(box, wares, paper):
    if paper[0] == "long":
        return is_number_of(wares, paper[1]) and is_long(box, wares[paper[1]])
    return paper[0] == "weights" and rows_bar(box, wares, paper[1], paper[2])


def weighed_spots(box, wares, places, row, other):
    across = made_weighing(box[0], row)
    up = made_weighing(box[1], other)
    sides = [sides_of(ware, place[2]) for ware, place in zip(wares, places)]
    widths = [across.weigh(w) for w, h in sides]
    heights = [up.weigh(h) for w, h in sides]
    lefts, belows = related(wares, places)
    xs = starts_of(widths, lefts)
    ys = starts_of(heights, belows)
    return [(x, y, x + w, y + h) for x, y, w, h in zip(xs, ys, widths, heights)]
