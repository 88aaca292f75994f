"""Plans of cuts: how a box is cut straight through, piece by piece, to its wares."""

from cratefit.errors import BadPlan
from cratefit.wares import is_number_of, sides_of


def is_cut(plan):
    return plan[0] in ("across", "up")


def cut_side(spot, plan):
    return spot[2] - spot[0] if plan[0] == "across" else spot[3] - spot[1]


def cut_spots(spot, plan):
    x, y, x2, y2 = spot
    at = plan[1]
    if plan[0] == "across":
        return ((x, y, x + at, y2), (x + at, y, x2, y2))
    return ((x, y, x2, y + at), (x, y + at, x2, y2))


def nodes_of(box, plan):
    # A list of what waits, not recursion: plans may be deep.
    nodes = []
    waiting = [((0, 0, box[0], box[1]), plan)]
    while len(waiting) > 0:
        spot, part = waiting.pop()
        nodes.append((spot, part))
        if is_cut(part):
            first, second = cut_spots(spot, part)
            waiting.append((second, part[3]))
            waiting.append((first, part[2]))
    return nodes


def is_right_ware(wares, spot, leaf, stood):
    k = leaf[1]
    lie = leaf[2]
    if not is_number_of(wares, k) or k in stood or (lie and not wares[k][2]):
        return False
    return sides_of(wares[k], lie) == (spot[2] - spot[0], spot[3] - spot[1])


def plan_fault(box, wares, plan):
    stood = {}
    for spot, part in nodes_of(box, plan):
        if is_cut(part) and (part[1] < 1 or part[1] >= cut_side(spot, part)):
            return ("cut", part[1])
        if part[0] == "ware":
            if not is_right_ware(wares, spot, part, stood):
                return ("ware", part[1])
            stood[part[1]] = True
    for k in range(len(wares)):
        if k not in stood:
            return ("lacks", k)
    return None


def pieces_of(box, plan):
    return [(spot, part) for spot, part in nodes_of(box, plan) if not is_cut(part)]


def cut_places(box, wares, plan):
    why = plan_fault(box, wares, plan)
    if why is not None:
        raise BadPlan(why)
    places = [None] * len(wares)
    for spot, leaf in pieces_of(box, plan):
        if leaf[0] == "ware":
            places[leaf[1]] = (spot[0], spot[1], leaf[2])
    return places


def count_cuts(plan):
    # How many cuts there are does not hang on the box.
    return len([part for spot, part in nodes_of((0, 0), plan) if is_cut(part)])
