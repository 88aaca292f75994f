"""Plans of cuts found for packings."""

from cratefit.errors import BadPacking
from cratefit.places import fault, spots_of
from cratefit.plans import cut_spots, is_cut


def free_end(piece, spots, side):
    # side is 0 across and 1 up: a spot begins at the one and ends two further on.
    for end in sorted(set([spot[side] for spot in spots] + [spot[side + 2] for spot in spots])):
        within = piece[side] < end and end < piece[side + 2]
        if within and not any([spot[side] < end and end < spot[side + 2] for spot in spots]):
            return end
    return None


def leaf_or_cut(piece, spots, places, numbers):
    # A cut is told without its parts: they are not known yet.
    if len(numbers) == 0:
        return ("waste",)
    first = numbers[0]
    if spots[first] == piece:
        return ("ware", first, places[first][2])
    inside = [spots[k] for k in numbers]
    for side, word in ((0, "across"), (1, "up")):
        end = free_end(piece, inside, side)
        if end is not None:
            return (word, end - piece[side])
    return None


def is_within(spot, piece):
    return spot[0] >= piece[0] and spot[1] >= piece[1] and spot[2] <= piece[2] and spot[3] <= piece[3]


def joined(heads):
    # Walked from the end, both parts of a cut are there when it comes.
    plans = []
    for head in reversed(heads):
        if is_cut(head):
            first = plans.pop()
            second = plans.pop()
            plans.append(head + (first, second))
        else:
            plans.append(head)
    return plans[0]


def plan_of(box, wares, places):
    why = fault(box, wares, places)
    if why is not None:
        raise BadPacking(why)
    spots = spots_of(wares, places)
    heads = []
    waiting = [((0, 0, box[0], box[1]), list(range(len(wares))))]
    while len(waiting) > 0:
        piece, numbers = waiting.pop()
        head = leaf_or_cut(piece, spots, places, numbers)
        if head is None:
            return ("stuck", piece, numbers)
        heads.append(head)
        if is_cut(head):
            # The first part is taken out first: it goes on top.
            for part in reversed(cut_spots(piece, head)):
                waiting.append((part, [k for k in numbers if is_within(spots[k], part)]))
    return ("plan", joined(heads))
