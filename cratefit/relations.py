"""Which wares are left of and below which, chains of them, and wares settled by them."""

from cratefit.errors import Ring
from cratefit.places import spots_of
from cratefit.wares import sides_of


def pairs_in_order(spots, end, begin):
    pairs = []
    for i, one in enumerate(spots):
        for j, other in enumerate(spots):
            if i != j and one[end] <= other[begin]:
                pairs.append((i, j))
    return pairs


def related(wares, places):
    spots = spots_of(wares, places)
    return (pairs_in_order(spots, 2, 0), pairs_in_order(spots, 3, 1))


def followers_of(count, pairs):
    followers = [[] for k in range(count)]
    for i, j in pairs:
        followers[i].append(j)
    return followers


def order_along(count, pairs):
    followers = followers_of(count, pairs)
    waits = [0] * count
    for i, j in pairs:
        waits[j] += 1
    order = [k for k in range(count) if waits[k] == 0]
    at = 0
    while at < len(order):
        k = order[at]
        for j in followers[k]:
            waits[j] -= 1
            if waits[j] == 0:
                order.append(j)
        at += 1
    # Just the numbers of a ring, and those behind it, wait for ever.
    if len(order) < count:
        raise Ring("a chain leads from a number back to itself")
    return order


def starts_and_former(sizes, pairs):
    # By the former numbers a chain that gives a start can be walked back.
    followers = followers_of(len(sizes), pairs)
    starts = [0] * len(sizes)
    former = [None] * len(sizes)
    for i in order_along(len(sizes), pairs):
        end = starts[i] + sizes[i]
        for j in followers[i]:
            if former[j] is None or end > starts[j]:
                starts[j] = end
                former[j] = i
    return (starts, former)


def starts_of(sizes, pairs):
    starts, former = starts_and_former(sizes, pairs)
    return starts


def longest(sizes, pairs):
    starts, former = starts_and_former(sizes, pairs)
    totals = [start + size for start, size in zip(starts, sizes)]
    total = max(totals, default=0)
    # A chain has a number at least, also where all sizes are nought.
    k = totals.index(total) if len(totals) > 0 else None
    chain = []
    while k is not None:
        chain.append(k)
        k = former[k]
    return (total, list(reversed(chain)))


def settled(wares, lies, lefts, belows):
    sides = [sides_of(ware, lie) for ware, lie in zip(wares, lies)]
    xs = starts_of([w for w, h in sides], lefts)
    ys = starts_of([h for w, h in sides], belows)
    return list(zip(xs, ys, lies))


def pushed(wares, places):
    lefts, belows = related(wares, places)
    return settled(wares, [place[2] for place in places], lefts, belows)
