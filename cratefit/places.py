"""Places, their spots, and what makes them a packing."""

from cratefit.wares import sides_of


def spot_of(ware, place):
    x, y, lie = place
    w, h = sides_of(ware, lie)
    return (x, y, x + w, y + h)


def spots_of(wares, places):
    return [spot_of(ware, place) for ware, place in zip(wares, places)]


def apart(one, other):
    across = one[2] <= other[0] or other[2] <= one[0]
    up = one[3] <= other[1] or other[3] <= one[1]
    return across or up


def lies_in(box, spot):
    x, y, x2, y2 = spot
    return x >= 0 and y >= 0 and x2 <= box[0] and y2 <= box[1]


def fault(box, wares, places):
    if len(places) != len(wares):
        return ("count", len(places))
    spots = []
    for k, place in enumerate(places):
        if place[2] and not wares[k][2]:
            return ("turn", k)
        spot = spot_of(wares[k], place)
        if not lies_in(box, spot):
            return ("out", k)
        for i, other in enumerate(spots):
            if not apart(other, spot):
                return ("over", i, k)
        spots.append(spot)
    return None


def packed(box, wares, places):
    return fault(box, wares, places) is None


def used(wares, places):
    spots = spots_of(wares, places)
    return (max([spot[2] for spot in spots], default=0), max([spot[3] for spot in spots], default=0))


def mirrored(box, wares, places, across):
    told = []
    for place, spot in zip(places, spots_of(wares, places)):
        x, y, lie = place
        if across:
            told.append((box[0] - spot[2], y, lie))
        else:
            told.append((x, box[1] - spot[3], lie))
    return told
