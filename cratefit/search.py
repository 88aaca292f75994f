"""The search: places of the first open way, or the paper that closes them all."""

from cratefit.relations import settled
from cratefit.wares import by_area, check_count, lies_of, sides_of

MOST_WARES = 5


class Way:
    def __init__(self, lies, across, up):
        # across and up tell for each (i, j) between which a chain of chosen relations leads, and
        # for each taken ware as (k, k), the longest such chain, a tuple (total, numbers): so what
        # is related already and what is too long are both found without a walk.
        self.lies = lies
        self.across = across
        self.up = up

    def relates(self, i, j):
        return any([(i, j) in chains or (j, i) in chains for chains in (self.across, self.up)])


def with_key(table, key, value):
    told = dict(table)
    told[key] = value
    return told


def with_pair(chains, i, j):
    # Each new chain leads to i, then from j on.
    told = dict(chains)
    for head in [pair for pair in chains if pair[1] == i]:
        for tail in [pair for pair in chains if pair[0] == j]:
            ends = (head[0], tail[1])
            total = chains[head][0] + chains[tail][0]
            if ends not in told or total > told[ends][0]:
                told[ends] = (total, chains[head][1] + chains[tail][1])
    return told


def ways_behind_lie(wares, k, way):
    ways = []
    for lie in lies_of(wares[k]):
        w, h = sides_of(wares[k], lie)
        across = with_key(way.across, (k, k), (w, (k,)))
        up = with_key(way.up, (k, k), (h, (k,)))
        ways.append(Way(with_key(way.lies, k, lie), across, up))
    return ways


def ways_behind_pair(i, j, way):
    if way.relates(i, j):
        return [way]
    return [
        Way(way.lies, with_pair(way.across, i, j), way.up),
        Way(way.lies, with_pair(way.across, j, i), way.up),
        Way(way.lies, way.across, with_pair(way.up, i, j)),
        Way(way.lies, way.across, with_pair(way.up, j, i)),
    ]


def ways_behind(wares, step, way):
    if step[0] == "turn":
        return ways_behind_lie(wares, step[1], way)
    return ways_behind_pair(step[1], step[2], way)


def leaf_of(word, side, chains):
    for total, numbers in chains.values():
        if total > side:
            return ("chain", word, list(numbers))
    return None


def closing_leaf(box, way):
    leaf = leaf_of("across", box[0], way.across)
    return leaf_of("up", box[1], way.up) if leaf is None else leaf


def pairs_of(chains):
    return [pair for pair in chains if pair[0] != pair[1]]


def settled_by(wares, way):
    # All pairs that chains lead between give the same starts as the chosen ones alone.
    lies = [way.lies[k] for k in range(len(wares))]
    return settled(wares, lies, pairs_of(way.across), pairs_of(way.up))


def steps_for(wares):
    order = by_area(wares)
    steps = []
    for at, k in enumerate(order):
        steps.append(("turn", k))
        for i in order[:at]:
            steps.append(("pair", i, k))
    return steps


def searched(box, wares, steps, way):
    if len(steps) == 0:
        return ("places", settled_by(wares, way))
    parts = []
    for further in ways_behind(wares, steps[0], way):
        leaf = closing_leaf(box, further)
        told = searched(box, wares, steps[1:], further) if leaf is None else ("barred", leaf)
        if told[0] == "places":
            return told
        parts.append(told[1])
    # Where there was nothing to choose, the paper has neither a turn nor a pair.
    paper = parts[0] if len(parts) == 1 else steps[0] + tuple(parts)
    return ("barred", paper)


def fit(box, wares):
    check_count(wares, MOST_WARES)
    return searched(box, wares, steps_for(wares), Way({}, {}, {}))


def fits(box, wares):
    return fit(box, wares)[0] == "places"
