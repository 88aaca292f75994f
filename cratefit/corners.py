"""Wares placed one by one, each at the least place that is left."""

from cratefit.places import apart, lies_in, spot_of
from cratefit.wares import by_area, lies_of, sides_of


def least_place(box, spots, w, h):
    # From the least place a spot can go neither down nor left, so it lies at nought or at an end of another.
    ys = sorted(set([0] + [spot[3] for spot in spots]))
    xs = sorted(set([0] + [spot[2] for spot in spots]))
    for y in ys:
        for x in xs:
            spot = (x, y, x + w, y + h)
            if lies_in(box, spot) and all([apart(spot, other) for other in spots]):
                return (x, y)
    return None


def cornered_place(box, spots, ware):
    best = None
    for lie in lies_of(ware):
        w, h = sides_of(ware, lie)
        corner = least_place(box, spots, w, h)
        if corner is None:
            continue
        x, y = corner
        # Flat comes first among the lies, so a turned one has to be better.
        if best is None or (y, x) < (best[1], best[0]):
            best = (x, y, lie)
    return best


def cornered(box, wares):
    spots = []
    places = [None] * len(wares)
    for k in by_area(wares):
        place = cornered_place(box, spots, wares[k])
        if place is not None:
            places[k] = place
            spots.append(spot_of(wares[k], place))
    return places
