"""Papers: trees of choices that bar every packing, looked through by themselves.

What was chosen on the way to a part of a paper is a dict: ("lie", k) with ware k's lie,
("across", i, j) where i is left of j, ("up", i, j) where i is below j.
"""

from cratefit.errors import BadPacking
from cratefit.places import spots_of
from cratefit.wares import is_number_of, lies_of, sides_of


def branches_of(paper):
    if paper[0] == "turn":
        k = paper[1]
        return [(("lie", k), False, paper[2]), (("lie", k), True, paper[3])]
    i = paper[1]
    j = paper[2]
    return [
        (("across", i, j), True, paper[3]),
        (("across", j, i), True, paper[4]),
        (("up", i, j), True, paper[5]),
        (("up", j, i), True, paper[6]),
    ]


def has_two_lies(ware):
    return len(lies_of(ware)) == 2


def is_chosen_chain(wares, word, numbers, chosen):
    if len(numbers) == 0 or not all([is_number_of(wares, k) for k in numbers]):
        return False
    if not all([(word, i, j) in chosen for i, j in zip(numbers, numbers[1:])]):
        return False
    return all([("lie", k) in chosen or not has_two_lies(wares[k]) for k in numbers])


def leaf_is_right(box, wares, leaf, chosen):
    word = leaf[1]
    numbers = leaf[2]
    if word not in ("across", "up") or not is_chosen_chain(wares, word, numbers, chosen):
        return False
    side = 0 if word == "across" else 1
    total = sum([sides_of(wares[k], chosen.get(("lie", k), False))[side] for k in numbers])
    return total > box[side]


def choice_is_right(wares, paper, chosen):
    if paper[0] == "turn":
        k = paper[1]
        return is_number_of(wares, k) and has_two_lies(wares[k]) and ("lie", k) not in chosen
    i = paper[1]
    j = paper[2]
    return i != j and is_number_of(wares, i) and is_number_of(wares, j)


def is_right(box, wares, paper, chosen):
    if paper[0] == "chain":
        return leaf_is_right(box, wares, paper, chosen)
    if not choice_is_right(wares, paper, chosen):
        return False
    for key, value, part in branches_of(paper):
        further = dict(chosen)
        further[key] = value
        if not is_right(box, wares, part, further):
            return False
    return True


def bars_all(box, wares, paper):
    return is_right(box, wares, paper, {})


def leaves(paper):
    if paper[0] == "chain":
        return 1
    return sum([leaves(part) for key, value, part in branches_of(paper)])


def part_behind_pair(spots, paper):
    i = paper[1]
    j = paper[2]
    one = spots[i]
    other = spots[j]
    if one[2] <= other[0]:
        return paper[3]
    if other[2] <= one[0]:
        return paper[4]
    if one[3] <= other[1]:
        return paper[5]
    if other[3] <= one[1]:
        return paper[6]
    raise BadPacking(("over", i, j))


def led(wares, places, paper):
    # The spots of all wares come first, so that BadTurn comes ahead of BadPacking.
    spots = spots_of(wares, places)
    part = paper
    while part[0] != "chain":
        if part[0] == "turn":
            part = part[3] if places[part[1]][2] else part[2]
        else:
            part = part_behind_pair(spots, part)
    return part
