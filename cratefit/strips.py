"""The lowest strip of a told width, with places for it and a paper for one less."""

from cratefit.errors import TooWide
from cratefit.search import MOST_WARES, fit, fits
from cratefit.wares import check_count, lies_of, sides_of


def heights_of(wares):
    check_count(wares, MOST_WARES)
    sums = [0]
    for ware in wares:
        grown = list(sums)
        for lie in lies_of(ware):
            height = sides_of(ware, lie)[1]
            grown.extend([total + height for total in sums])
        sums = sorted(set(grown))
    return sums


def check_width(width, wares):
    for k, ware in enumerate(wares):
        if min([sides_of(ware, lie)[0] for lie in lies_of(ware)]) > width:
            raise TooWide(k)


def least_height(width, wares):
    # Halving finds it: what fits goes into every higher box, too.
    heights = heights_of(wares)
    # Nothing goes into a height of nought; the greatest has room for all wares on one another.
    below = 0
    least = len(heights) - 1
    while least - below > 1:
        middle = (below + least) // 2
        if fits((width, heights[middle]), wares):
            least = middle
        else:
            below = middle
    return heights[least]


def lowest(width, wares):
    check_count(wares, MOST_WARES)
    check_width(width, wares)
    if len(wares) == 0:
        return (0, [], None)
    height = least_height(width, wares)
    return (height, fit((width, height), wares)[1], fit((width, height - 1), wares)[1])
