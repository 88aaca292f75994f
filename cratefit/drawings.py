"""Drawings of packings, a sign for each place of whole numbers, made and read back."""

from cratefit.errors import BadPacking, NoDrawing, NoSheet
from cratefit.places import fault, spots_of

SIGNS = "0123456789abcdefghijklmnopqrstuvwxyzABCDEFGHIJKLMNOPQRSTUVWXYZ"
NOTHING = "."
MOST_SIDE = 60


def is_sheet_side(side):
    return side >= 1 and side <= MOST_SIDE


def drawn(box, wares, places):
    if not is_sheet_side(box[0]) or not is_sheet_side(box[1]) or len(wares) > len(SIGNS):
        raise NoSheet("the box or the wares are too many for a sheet")
    why = fault(box, wares, places)
    if why is not None:
        raise BadPacking(why)
    rows = [[NOTHING] * box[0] for y in range(box[1])]
    for k, spot in enumerate(spots_of(wares, places)):
        for y in range(spot[1], spot[3]):
            for x in range(spot[0], spot[2]):
                rows[y][x] = SIGNS[k]
    return ["".join(row) for row in reversed(rows)]


def check_form(rows):
    if not is_sheet_side(len(rows)) or not is_sheet_side(len(rows[0])):
        raise NoDrawing("a drawing has from 1 to 60 rows of from 1 to 60 signs")
    if any([len(row) != len(rows[0]) for row in rows]):
        raise NoDrawing("the rows of a drawing are alike long")


def number_of(sign):
    number = SIGNS.find(sign)
    if number < 0:
        raise NoDrawing("another sign stands in the drawing")
    return number


def points_by_number(rows):
    points = {}
    for at, row in enumerate(rows):
        y = len(rows) - 1 - at
        for x, sign in enumerate(row):
            if sign != NOTHING:
                points.setdefault(number_of(sign), []).append((x, y))
    return points


def rectangle_of(number, points):
    xs = [x for x, y in points]
    ys = [y for x, y in points]
    x = min(xs)
    y = min(ys)
    x2 = max(xs) + 1
    y2 = max(ys) + 1
    # No place is there twice, so as many places as the rectangle has fill it.
    if len(points) != (x2 - x) * (y2 - y):
        raise NoDrawing("the places of a sign fill no rectangle")
    return (number, x, y, x2, y2)


def seen(rows):
    check_form(rows)
    points = points_by_number(rows)
    return ((len(rows[0]), len(rows)), [rectangle_of(number, points[number]) for number in sorted(points)])


def tally(rows):
    counts = [(sign, sum([row.count(sign) for row in rows])) for sign in SIGNS]
    # Like ones stay in the order of the signs: sorted keeps it.
    return sorted([pair for pair in counts if pair[1] > 0], key=lambda pair: -pair[1])
