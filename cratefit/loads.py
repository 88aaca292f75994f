"""Loads: which wares stand on which, how they fall, and what presses on each."""

from cratefit.errors import Hangs
from cratefit.places import spots_of


def shared_width(one, other):
    # Nought or below where they share none.
    return min(one[2], other[2]) - max(one[0], other[0])


def touches_of(spots, k):
    touches = [(j, shared_width(spot, spots[k])) for j, spot in enumerate(spots) if spot[3] == spots[k][1]]
    return [(j, touch) for j, touch in touches if touch > 0]


def touching(wares, places, k):
    return touches_of(spots_of(wares, places), k)


def hanging(wares, places):
    spots = spots_of(wares, places)
    for k, spot in enumerate(spots):
        held = sum([touch for j, touch in touches_of(spots, k)])
        if spot[1] != 0 and held < spot[2] - spot[0]:
            return k
    return None


def set_order(wares, places):
    return sorted(range(len(places)), key=lambda k: (places[k][1], k))


def fallen(wares, places):
    spots = spots_of(wares, places)
    landed = []
    told = list(places)
    for k in set_order(wares, places):
        x, y, x2, y2 = spots[k]
        floor = max([spot[3] for spot in landed if shared_width(spot, spots[k]) > 0], default=0)
        told[k] = (x, floor, places[k][2])
        landed.append((x, floor, x2, floor + y2 - y))
    return told


def over(wares, places, k):
    spots = spots_of(wares, places)
    reached = {k: True}
    # What a ware stands on is set down ahead of it, so one walk finds all.
    for i in set_order(wares, places):
        if any([j in reached for j, touch in touches_of(spots, i)]):
            reached[i] = True
    return [i for i in sorted(reached) if i != k]


def common_divisor(one, other):
    while other != 0:
        rest = one % other
        one = other
        other = rest
    return one


def reduced(top, bottom):
    divisor = common_divisor(top, bottom)
    return (top // divisor, bottom // divisor)


def added(one, other):
    return reduced(one[0] * other[1] + other[0] * one[1], one[1] * other[1])


def pressed(wares, places, weights):
    at = hanging(wares, places)
    if at is not None:
        raise Hangs(at)
    spots = spots_of(wares, places)
    told = [(0, 1)] * len(wares)
    floor = (0, 1)
    # From above: all that stands on a ware is known when its turn comes.
    for k in reversed(set_order(wares, places)):
        x, y, x2, y2 = spots[k]
        load = added(told[k], (weights[k], 1))
        if y == 0:
            floor = added(floor, load)
        for j, touch in touches_of(spots, k):
            told[j] = added(told[j], (load[0] * touch, load[1] * (x2 - x)))
    return (told, floor)


def overloaded(wares, places, weights, bears):
    loads, floor = pressed(wares, places, weights)
    for k, load in enumerate(loads):
        if load[0] > bears[k] * load[1]:
            return k
    return None
