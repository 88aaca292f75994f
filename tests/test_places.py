import inspect
import unittest

from cratefit.errors import BadTurn
from cratefit.places import apart, fault, mirrored, packed, spot_of, used

GREAT = 10 ** 42
SIDE = 10 ** 40


def share_a_point(one, other):
    """Whether the two spots, of sides from 1 on, share a square of side 1."""
    return any(
        other[0] <= x < other[2] and other[1] <= y < other[3]
        for x in range(one[0], one[2])
        for y in range(one[1], one[3])
    )


class TheInterface(unittest.TestCase):
    def test_arguments(self):
        self.assertEqual(str(inspect.signature(spot_of)), "(ware, place)")
        self.assertEqual(str(inspect.signature(apart)), "(one, other)")
        self.assertEqual(str(inspect.signature(fault)), "(box, wares, places)")
        self.assertEqual(str(inspect.signature(packed)), "(box, wares, places)")
        self.assertEqual(str(inspect.signature(used)), "(wares, places)")
        self.assertEqual(str(inspect.signature(mirrored)), "(box, wares, places, across)")


class SpotOf(unittest.TestCase):
    def test_flat(self):
        told = spot_of((12, 7, False), (3, 4, False))
        self.assertEqual(told, (3, 4, 15, 11))
        self.assertIs(type(told), tuple)
        self.assertEqual(spot_of((12, 7, True), (3, 4, False)), (3, 4, 15, 11))

    def test_turned(self):
        self.assertEqual(spot_of((12, 7, True), (3, 4, True)), (3, 4, 10, 16))

    def test_a_square_turned(self):
        self.assertEqual(spot_of((5, 5, True), (0, 0, True)), (0, 0, 5, 5))

    def test_below_nought_and_great(self):
        self.assertEqual(spot_of((12, 7, False), (-20, -3, False)), (-20, -3, -8, 4))
        self.assertEqual(
            spot_of((SIDE, 1, True), (-GREAT, GREAT, True)),
            (-GREAT, GREAT, -GREAT + 1, GREAT + SIDE),
        )

    def test_turned_that_may_not_be(self):
        self.assertRaises(BadTurn, spot_of, (12, 7, False), (0, 0, True))
        self.assertRaises(BadTurn, spot_of, (5, 5, False), (0, 0, True))


class Apart(unittest.TestCase):
    def both(self, one, other, truth):
        with self.subTest(one=one, other=other):
            self.assertIs(apart(one, other), truth)
            self.assertIs(apart(other, one), truth)

    def test_touching_across_and_up(self):
        self.both((0, 0, 3, 3), (3, 0, 6, 3), True)
        self.both((0, 0, 3, 3), (0, 3, 3, 6), True)
        self.both((0, 0, 3, 3), (3, 3, 6, 6), True)

    def test_far_from_one_another(self):
        self.both((0, 0, 3, 3), (9, 1, 12, 2), True)
        self.both((0, 0, 3, 3), (1, 9, 2, 12), True)

    def test_overlapping_by_one(self):
        self.both((0, 0, 3, 3), (2, 0, 5, 3), False)
        self.both((0, 0, 3, 3), (0, 2, 3, 5), False)
        self.both((0, 0, 3, 3), (2, 2, 5, 5), False)

    def test_over_one_another(self):
        self.both((0, 0, 3, 3), (0, 0, 3, 3), False)
        self.both((0, 0, 9, 9), (3, 3, 4, 4), False)
        self.both((0, 3, 9, 4), (3, 0, 4, 9), False)

    def test_below_nought(self):
        self.both((-5, -5, -2, -2), (-2, -5, 0, -2), True)
        self.both((-5, -5, -2, -2), (-3, -3, 0, 0), False)

    def test_no_width_or_no_height(self):
        self.both((5, 0, 5, 9), (0, 0, 9, 9), False)
        self.both((0, 5, 9, 5), (0, 0, 9, 9), False)
        self.both((5, 5, 5, 5), (0, 0, 9, 9), False)
        self.both((0, 0, 0, 9), (0, 0, 9, 9), True)
        self.both((9, 0, 9, 9), (0, 0, 9, 9), True)
        self.both((3, 9, 6, 9), (0, 0, 9, 9), True)
        self.both((5, 5, 5, 5), (5, 5, 5, 5), True)
        self.both((5, 0, 5, 9), (0, 5, 9, 5), False)

    def test_great_numbers(self):
        self.both((0, 0, GREAT, GREAT), (GREAT, 0, GREAT + 1, 1), True)
        self.both((0, 0, GREAT, GREAT), (GREAT - 1, 0, GREAT + 1, 1), False)

    def test_held_against_all_small_spots(self):
        spots = [
            (x, y, x + w, y + h)
            for x in range(3) for y in range(3) for w in (1, 2) for h in (1, 3)
        ]
        for one in spots:
            for other in spots:
                self.assertIs(apart(one, other), not share_a_point(one, other))


class Fault(unittest.TestCase):
    wares = [(4, 3, False), (2, 5, True), (1, 1, False)]
    places = [(0, 0, False), (4, 0, True), (4, 2, False)]

    def told(self, places, expected, box=(9, 3), wares=None):
        wares = self.wares if wares is None else wares
        with self.subTest(box=box, places=places):
            self.assertEqual(fault(box, wares, places), expected)
            self.assertIs(packed(box, wares, places), expected is None)

    def test_none(self):
        self.told(self.places, None)
        self.told([], None, wares=[])
        self.told([], None, box=(0, 0), wares=[])
        self.assertIsNone(fault((9, 3), self.wares, self.places))

    def test_a_square_turned(self):
        self.told([(0, 0, True)], None, box=(5, 5), wares=[(5, 5, True)])
        self.told([(0, 0, True)], ("turn", 0), box=(5, 5), wares=[(5, 5, False)])

    def test_count(self):
        self.told(self.places[:2], ("count", 2))
        self.told(self.places + [(0, 0, False)], ("count", 4))
        self.told([], ("count", 0))
        self.told([(0, 0, False)], ("count", 1), wares=[])

    def test_count_comes_ahead_of_all(self):
        self.told([(-1, 0, True), (-1, 0, True)], ("count", 2))

    def test_turn(self):
        self.told([(0, 0, False), (4, 0, True), (4, 2, True)], ("turn", 2))
        self.told([(0, 0, True), (4, 0, True), (4, 2, True)], ("turn", 0))

    def test_turn_comes_ahead_of_out_and_over(self):
        self.told([(-5, 0, True), (4, 0, True), (4, 2, False)], ("turn", 0))
        self.told([(0, 0, False), (4, 0, True), (0, 0, True)], ("turn", 2))

    def test_out_on_each_side(self):
        for place in ((-1, 0, False), (0, -1, False), (6, 0, False), (0, 1, False)):
            self.told([place, (4, 0, True), (4, 2, False)], ("out", 0))

    def test_just_within_each_side(self):
        ware = [(4, 3, False)]
        for place in ((0, 0, False), (5, 0, False), (0, 2, False), (5, 2, False)):
            self.told([place], None, box=(9, 5), wares=ware)
        for place in ((6, 0, False), (0, 3, False)):
            self.told([place], ("out", 0), box=(9, 5), wares=ware)

    def test_out_goes_by_the_lie(self):
        self.told([(0, 0, True)], None, box=(5, 2), wares=[(2, 5, True)])
        self.told([(0, 0, False)], ("out", 0), box=(5, 2), wares=[(2, 5, True)])

    def test_out_comes_ahead_of_over(self):
        self.told([(0, 0, False), (-1, 0, True), (4, 2, False)], ("out", 1))

    def test_a_fault_of_a_lesser_ware_comes_first(self):
        self.told([(0, 0, False), (3, 0, True), (4, 2, True)], ("over", 0, 1))
        self.told([(0, 0, False), (6, 0, True), (4, 2, True)], ("out", 1))
        self.told([(0, 0, False), (3, 0, True), (99, 0, False)], ("over", 0, 1))

    def test_over_with_the_least_number(self):
        wares = [(2, 2, False)] * 4
        self.told(
            [(0, 0, False), (2, 0, False), (4, 0, False), (3, 0, False)],
            ("over", 1, 3), box=(9, 9), wares=wares,
        )
        self.told(
            [(0, 0, False), (2, 0, False), (4, 0, False), (4, 0, False)],
            ("over", 2, 3), box=(9, 9), wares=wares,
        )
        self.told([(0, 0, False)] * 4, ("over", 0, 1), box=(9, 9), wares=wares)

    def test_a_side_of_nought_holds_no_ware(self):
        self.told([(0, 0, False)], ("out", 0), box=(0, 9), wares=[(1, 1, False)])
        self.told([(0, 0, False)], ("out", 0), box=(9, 0), wares=[(1, 1, False)])

    def test_great_numbers(self):
        wares = [(SIDE, SIDE, False), (SIDE, 1, True)]
        self.told([(0, 0, False), (SIDE, GREAT - SIDE, True)], None, box=(SIDE + 1, GREAT), wares=wares)
        self.told([(0, 0, False), (SIDE, GREAT - SIDE + 1, True)], ("out", 1), box=(SIDE + 1, GREAT), wares=wares)
        self.told([(GREAT, -GREAT, False), (0, 0, False)], ("out", 0), box=(GREAT, GREAT), wares=wares)

    def test_a_hundred_wares(self):
        wares = [(1, 1, False)] * 100
        places = [(k % 10, k // 10, False) for k in range(100)]
        self.told(places, None, box=(10, 10), wares=wares)
        self.told(places[:99] + [(8, 9, False)], ("over", 98, 99), box=(10, 10), wares=wares)


class Used(unittest.TestCase):
    def test_of_none(self):
        self.assertEqual(used([], []), (0, 0))
        self.assertIs(type(used([], [])), tuple)

    def test_of_some(self):
        wares = [(4, 3, False), (2, 5, True)]
        self.assertEqual(used(wares, [(0, 9, False), (4, 0, True)]), (9, 12))
        self.assertEqual(used(wares, [(0, 0, False), (4, 0, False)]), (6, 5))

    def test_below_nought(self):
        self.assertEqual(used([(4, 3, False)], [(-9, -8, False)]), (-5, -5))
        self.assertEqual(used([(4, 3, False), (1, 1, False)], [(-9, 0, False), (-1, -8, False)]), (0, 3))

    def test_great(self):
        self.assertEqual(used([(SIDE, 1, False)], [(GREAT, -GREAT, False)]), (GREAT + SIDE, 1 - GREAT))

    def test_turned_that_may_not_be(self):
        wares = [(4, 3, False), (2, 5, True), (2, 5, False)]
        places = [(0, 0, False), (4, 0, True), (0, 0, True)]
        self.assertRaises(BadTurn, used, wares, places)


class Mirrored(unittest.TestCase):
    wares = [(4, 3, False), (2, 5, True)]

    def test_across(self):
        places = [(0, 1, False), (4, 0, True)]
        self.assertEqual(mirrored((10, 7), self.wares, places, True), [(6, 1, False), (1, 0, True)])

    def test_up(self):
        places = [(0, 1, False), (4, 0, True)]
        self.assertEqual(mirrored((10, 7), self.wares, places, False), [(0, 3, False), (4, 5, True)])

    def test_ends_beyond_the_box(self):
        places = [(8, 6, False), (-3, -2, False)]
        self.assertEqual(mirrored((10, 7), self.wares, places, True), [(-2, 6, False), (11, -2, False)])
        self.assertEqual(mirrored((10, 7), self.wares, places, False), [(8, -2, False), (-3, 4, False)])

    def test_none(self):
        self.assertEqual(mirrored((10, 7), [], [], True), [])
        self.assertEqual(mirrored((0, 0), [], [], False), [])

    def test_twice_is_as_it_was_and_a_packing_stays_one(self):
        places = [(0, 0, False), (4, 1, True)]
        for across in (True, False):
            told = mirrored((10, 4), self.wares, places, across)
            self.assertTrue(packed((10, 4), self.wares, told))
            self.assertEqual(mirrored((10, 4), self.wares, told, across), places)

    def test_great(self):
        self.assertEqual(
            mirrored((GREAT, 0), [(SIDE, 1, False)], [(GREAT, -GREAT, False)], True),
            [(-SIDE, -GREAT, False)],
        )

    def test_turned_that_may_not_be(self):
        for across in (True, False):
            self.assertRaises(BadTurn, mirrored, (9, 9), self.wares, [(0, 0, True), (4, 0, True)], across)


class WhatIsHandedInAndTold(unittest.TestCase):
    def test_what_is_handed_in_stays(self):
        wares = [(4, 3, False), (2, 5, True)]
        places = [(0, 0, False), (4, 0, True)]
        fault((9, 3), wares, places)
        packed((9, 3), wares, places)
        used(wares, places)
        told = mirrored((9, 3), wares, places, True)
        told.append("more")
        self.assertEqual(wares, [(4, 3, False), (2, 5, True)])
        self.assertEqual(places, [(0, 0, False), (4, 0, True)])

    def test_a_told_list_is_the_askers_own(self):
        for wares, places in (([], []), ([(4, 3, False)], [(0, 0, False)])):
            told = mirrored((4, 3), wares, places, True)
            self.assertIs(type(told), list)
            told.append("more")
            self.assertEqual(mirrored((4, 3), wares, places, True), places)


if __name__ == "__main__":
    unittest.main()
