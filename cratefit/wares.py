"""Wares, boxes, lies, and the two orders in which wares are taken."""

from cratefit.errors import BadSide, BadTurn, TooMany


def is_whole(value):
    # Python counts True and False as ints; here they are no whole numbers.
    return isinstance(value, int) and not isinstance(value, bool)


def check_side(side, least, most):
    if not is_whole(side) or side < least or side > most:
        raise BadSide(f"a side is a whole number from {least} to {most}")


def check_count(wares, most):
    if len(wares) > most:
        raise TooMany(f"there are at most {most} wares here")


def is_number_of(wares, k):
    # Asked ahead of an index: Python would count a number below nought from the end.
    return k >= 0 and k < len(wares)


def made_ware(w, h, turns=False):
    check_side(w, 1, 10 ** 40)
    check_side(h, 1, 10 ** 40)
    return (w, h, turns)


def made_box(w, h):
    check_side(w, 0, 10 ** 42)
    check_side(h, 0, 10 ** 42)
    return (w, h)


def sides_of(ware, lie):
    w, h, turns = ware
    if not lie:
        return (w, h)
    if not turns:
        raise BadTurn("a ware that may not be turned has no sides turned")
    return (h, w)


def lies_of(ware):
    w, h, turns = ware
    # A square turned has the same sides, so a second lie would tell nothing new.
    return [False, True] if turns and w != h else [False]


def area_of(wares):
    return sum([ware[0] * ware[1] for ware in wares])


def by_height(wares):
    return sorted(range(len(wares)), key=lambda k: (-wares[k][1], -wares[k][0], k))


def by_area(wares):
    return sorted(range(len(wares)), key=lambda k: (-area_of([wares[k]]), k))
