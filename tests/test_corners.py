import inspect
import unittest

from cratefit.corners import cornered, least_place
from cratefit.places import packed
from walks import Numbers, lies, overlap, sides

SIDE = 10 ** 40
GREAT = 10 ** 42


def plain_least(box, spots, w, h):
    for y in range(box[1] - h + 1):
        for x in range(box[0] - w + 1):
            if not any(overlap((x, y, x + w, y + h), spot) for spot in spots):
                return (x, y)
    return None


def plain_cornered(box, wares):
    places, spots = [None] * len(wares), []
    for k in sorted(range(len(wares)), key=lambda k: (-wares[k][0] * wares[k][1], k)):
        found = []
        for lie in lies(wares[k]):
            corner = plain_least(box, spots, *sides(wares[k], lie))
            if corner is not None:
                found.append((corner[1], corner[0], lie))
        if found:
            y, x, lie = min(found)
            w, h = sides(wares[k], lie)
            places[k] = (x, y, lie)
            spots.append((x, y, x + w, y + h))
    return places


class TheInterface(unittest.TestCase):
    def test_arguments(self):
        self.assertEqual(str(inspect.signature(least_place)), "(box, spots, w, h)")
        self.assertEqual(str(inspect.signature(cornered)), "(box, wares)")


class LeastPlace(unittest.TestCase):
    def told(self, box, spots, w, h, expected):
        with self.subTest(box=box, spots=spots, w=w, h=h):
            self.assertEqual(least_place(box, spots, w, h), expected)

    def test_an_empty_box(self):
        self.told((4, 3), [], 4, 3, (0, 0))
        self.told((4, 3), [], 1, 1, (0, 0))
        self.told((4, 3), [], 5, 1, None)
        self.told((4, 3), [], 1, 4, None)
        self.told((0, 0), [], 1, 1, None)
        self.told((0, 9), [], 1, 1, None)
        self.told((9, 0), [], 1, 1, None)
        self.assertIs(type(least_place((4, 3), [], 1, 1)), tuple)

    def test_the_least_y_comes_ahead_of_the_least_x(self):
        self.told((9, 9), [(0, 0, 3, 3)], 2, 2, (3, 0))
        self.told((4, 9), [(0, 0, 3, 3)], 2, 2, (0, 3))

    def test_spots_that_touch_and_leave_gaps(self):
        spots = [(0, 0, 2, 5), (2, 0, 4, 2), (6, 0, 9, 4)]
        self.told((9, 9), spots, 2, 1, (4, 0))
        self.told((9, 9), spots, 3, 1, (2, 2))
        self.told((9, 9), spots, 4, 1, (2, 2))
        self.told((9, 9), spots, 5, 1, (2, 4))
        self.told((9, 9), spots, 7, 1, (2, 4))
        self.told((9, 9), spots, 8, 1, (0, 5))
        self.told((9, 9), spots, 8, 5, None)

    def test_spots_that_overlap(self):
        self.told((6, 6), [(0, 0, 3, 3), (1, 1, 5, 2), (0, 0, 3, 3)], 2, 1, (3, 0))
        self.told((6, 6), [(0, 0, 3, 3), (1, 1, 5, 2), (0, 0, 3, 3)], 2, 2, (3, 2))

    def test_below_another_spot(self):
        self.told((4, 4), [(0, 2, 4, 4)], 4, 2, (0, 0))
        self.told((4, 4), [(0, 2, 4, 4)], 4, 3, None)
        self.told((4, 4), [(2, 0, 4, 4)], 2, 4, (0, 0))
        self.told((4, 4), [(2, 0, 4, 4)], 3, 1, None)

    def test_a_gap_of_just_the_sides(self):
        around = [(0, 0, 2, 6), (2, 0, 5, 1), (5, 0, 9, 6), (2, 3, 5, 6)]
        self.told((9, 6), around, 3, 2, (2, 1))
        self.told((9, 6), around, 4, 2, None)
        self.told((9, 6), around, 3, 3, None)

    def test_a_full_box(self):
        self.told((4, 4), [(0, 0, 4, 4)], 1, 1, None)

    def test_spots_without_width_or_height(self):
        self.told((6, 6), [(2, 0, 2, 6)], 3, 1, (2, 0))
        self.told((6, 6), [(2, 0, 2, 6)], 2, 1, (0, 0))
        self.told((6, 6), [(0, 2, 6, 2)], 1, 3, (0, 2))
        self.told((6, 6), [(2, 2, 2, 2)], 6, 3, (0, 2))

    def test_great(self):
        self.told((GREAT, GREAT), [(0, 0, GREAT, SIDE), (0, SIDE, GREAT - SIDE, GREAT)], SIDE, SIDE, (GREAT - SIDE, SIDE))
        self.told((GREAT, GREAT), [(0, 0, GREAT, SIDE), (0, SIDE, GREAT - SIDE + 1, GREAT)], SIDE, SIDE, None)

    def test_held_against_all_places(self):
        drawn = Numbers(29)
        seen = 0
        for turn in range(1500):
            box = (drawn.upto(1, 9), drawn.upto(1, 9))
            spots = []
            for k in range(drawn.upto(0, 8)):
                x, y = drawn.upto(0, box[0] - 1), drawn.upto(0, box[1] - 1)
                spots.append((x, y, drawn.upto(x, box[0]), drawn.upto(y, box[1])))
            w, h = drawn.upto(1, 4), drawn.upto(1, 4)
            told = least_place(box, spots, w, h)
            self.assertEqual(told, plain_least(box, spots, w, h))
            seen += told is not None and told != (0, 0)
        self.assertGreater(seen, 100)

    def test_forty_spots(self):
        spots = [(k % 8, k // 8, k % 8 + 1, k // 8 + 1) for k in range(40)]
        self.told((8, 5), spots, 1, 1, None)
        self.told((8, 6), spots, 1, 1, (0, 5))
        self.told((8, 5), spots[:39], 1, 1, (7, 4))


class Cornered(unittest.TestCase):
    def test_no_wares(self):
        self.assertEqual(cornered((9, 9), []), [])
        self.assertEqual(cornered((0, 0), []), [])

    def test_by_area(self):
        self.assertEqual(cornered((9, 9), [(1, 1, False), (3, 2, False)]), [(3, 0, False), (0, 0, False)])

    def test_of_like_area_the_lesser_number_first(self):
        self.assertEqual(
            cornered((9, 9), [(1, 4, False), (2, 2, True), (4, 1, False)]),
            [(0, 0, False), (1, 0, False), (3, 0, False)],
        )

    def test_flat_of_two_lies_alike(self):
        self.assertEqual(cornered((9, 9), [(1, 4, True)]), [(0, 0, False)])
        self.assertEqual(cornered((9, 9), [(4, 1, True)]), [(0, 0, False)])

    def test_the_lie_that_fits(self):
        self.assertEqual(cornered((4, 1), [(1, 4, True)]), [(0, 0, True)])
        self.assertEqual(cornered((4, 1), [(1, 4, False)]), [None])
        self.assertEqual(cornered((4, 4), [(4, 4, True)]), [(0, 0, False)])

    def test_the_lower_y_first(self):
        self.assertEqual(cornered((5, 9), [(4, 3, False), (2, 1, True)]), [(0, 0, False), (4, 0, True)])
        self.assertEqual(cornered((6, 9), [(4, 3, False), (2, 1, True)]), [(0, 0, False), (4, 0, False)])

    def test_the_lesser_x_of_like_y(self):
        wares = [(4, 5, False), (5, 3, False), (1, 2, True)]
        self.assertEqual(cornered((9, 8), wares), [(0, 0, False), (4, 0, False), (4, 3, False)])
        wares = [(2, 9, False), (8, 2, False), (3, 3, False), (2, 4, True)]
        self.assertEqual(cornered((10, 9), wares), plain_cornered((10, 9), wares))

    def test_turned_for_the_lesser_x_of_like_y(self):
        wares = [(2, 3, False), (1, 5, False), (1, 3, False), (1, 3, False), (1, 3, False)]
        below = [(0, 0, False), (2, 0, False), (3, 0, False), (4, 0, False), (5, 0, False)]
        self.assertEqual(cornered((6, 9), wares + [(3, 1, False)]), below + [(3, 3, False)])
        self.assertEqual(cornered((6, 9), wares + [(3, 1, True)]), below + [(0, 3, True)])
        self.assertEqual(cornered((6, 9), wares + [(1, 3, True)]), below + [(0, 3, False)])

    def test_a_ware_that_is_left_out(self):
        self.assertEqual(
            cornered((4, 4), [(5, 1, True), (4, 3, False), (2, 2, False), (1, 1, False)]),
            [None, (0, 0, False), None, (0, 3, False)],
        )
        self.assertEqual(cornered((0, 5), [(1, 1, False)]), [None])

    def test_held_against_a_plain_walk(self):
        drawn = Numbers(30)
        left_out, turned = 0, 0
        for turn in range(150):
            box = (drawn.upto(2, 12), drawn.upto(2, 12))
            wares = drawn.wares(drawn.upto(1, 9), 6)
            told = cornered(box, wares)
            self.assertEqual(told, plain_cornered(box, wares))
            kept = [k for k in range(len(wares)) if told[k] is not None]
            self.assertTrue(packed(box, [wares[k] for k in kept], [told[k] for k in kept]))
            left_out += len(kept) < len(wares)
            turned += any(told[k][2] for k in kept)
        self.assertGreater(left_out, 20)
        self.assertGreater(turned, 20)

    def test_twenty_wares(self):
        wares = [(2, 1, True)] * 20
        told = cornered((5, 8), wares)
        self.assertNotIn(None, told)
        self.assertTrue(packed((5, 8), wares, told))

    def test_great(self):
        self.assertEqual(
            cornered((2 * SIDE, GREAT), [(SIDE, SIDE, True), (SIDE, SIDE - 1, True), (SIDE, SIDE, False)]),
            [(0, 0, False), (0, SIDE, False), (SIDE, 0, False)],
        )


class WhatIsHandedInAndTold(unittest.TestCase):
    def test_what_is_handed_in_stays(self):
        wares, spots = [(2, 1, True), (3, 2, False)], [(0, 0, 1, 1), (1, 0, 2, 1)]
        least_place((4, 4), spots, 1, 1)
        cornered((4, 4), wares)
        self.assertEqual(wares, [(2, 1, True), (3, 2, False)])
        self.assertEqual(spots, [(0, 0, 1, 1), (1, 0, 2, 1)])

    def test_told_lists_are_the_askers_own(self):
        for wares in ([], [(2, 1, True)]):
            told = cornered((4, 4), wares)
            kept = list(told)
            self.assertIs(type(told), list)
            told.append("more")
            self.assertEqual(cornered((4, 4), wares), kept)


if __name__ == "__main__":
    unittest.main()
