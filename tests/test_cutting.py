import inspect
import itertools
import unittest

from cratefit.cutting import plan_of
from cratefit.errors import BadPacking
from cratefit.places import spot_of
from cratefit.plans import cut_places, plan_fault
from cratefit.shelves import shelved
from walks import Numbers, packings

SIDE = 10 ** 40
GREAT = 10 ** 42
WASTE = ("waste",)

PINWHEEL = [(2, 1, False), (1, 2, False), (2, 1, False), (1, 2, False), (1, 1, False)]
PINWHEEL_PLACES = [(0, 0, False), (2, 0, False), (1, 2, False), (0, 1, False), (1, 1, False)]


def ware(k, lie=False):
    return ("ware", k, lie)


def inside(spot, piece):
    return spot[0] >= piece[0] and spot[1] >= piece[1] and spot[2] <= piece[2] and spot[3] <= piece[3]


def can_be_cut(piece, spots):
    """Whether straight cuts can cut the spots out of the piece: a walk over all cuts at all whole numbers."""
    if len(spots) == 0 or (len(spots) == 1 and spots[0] == piece):
        return True
    for side in (0, 1):
        for at in range(piece[side] + 1, piece[side + 2]):
            if any(spot[side] < at < spot[side + 2] for spot in spots):
                continue
            first, second = list(piece), list(piece)
            first[side + 2] = at
            second[side] = at
            parts = (tuple(first), tuple(second))
            if all(can_be_cut(part, tuple(spot for spot in spots if inside(spot, part))) for part in parts):
                return True
    return False


def has_free_cut(piece, spots):
    return any(
        not any(spot[side] < at < spot[side + 2] for spot in spots)
        for side in (0, 1) for at in range(piece[side] + 1, piece[side + 2])
    )


class TheInterface(unittest.TestCase):
    def test_arguments(self):
        self.assertEqual(str(inspect.signature(plan_of)), "(box, wares, places)")


class Found(unittest.TestCase):
    def told(self, box, wares, places, plan):
        self.assertEqual(plan_of(box, wares, places), ("plan", plan))
        self.assertEqual(cut_places(box, wares, plan), places)

    def test_without_wares_it_is_waste(self):
        for box in ((9, 9), (0, 0), (0, 9), (9, 0)):
            self.told(box, [], [], WASTE)

    def test_a_ware_that_fills_the_box(self):
        self.told((4, 3), [(4, 3, False)], [(0, 0, False)], ware(0))
        self.told((3, 4), [(4, 3, True)], [(0, 0, True)], ware(0, True))
        self.told((4, 4), [(4, 4, True)], [(0, 0, True)], ware(0, True))

    def test_one_ware_with_waste_around(self):
        self.told(
            (9, 8), [(4, 3, False)], [(2, 1, False)],
            ("across", 2, WASTE, ("across", 4, ("up", 1, WASTE, ("up", 3, ware(0), WASTE)), WASTE)),
        )

    def test_across_at_the_least_x_that_is_free(self):
        wares = [(2, 2, False), (3, 2, False), (1, 2, False)]
        self.told(
            (6, 2), wares, [(4, 0, False), (0, 0, False), (3, 0, False)],
            ("across", 3, ware(1), ("across", 1, ware(2), ware(0))),
        )

    def test_an_end_within_another_ware_is_not_free(self):
        wares = [(2, 1, False), (3, 1, False), (1, 2, False)]
        self.told(
            (4, 2), wares, [(0, 0, False), (0, 1, False), (3, 0, False)],
            ("across", 3, ("up", 1, ("across", 2, ware(0), WASTE), ware(1)), ware(2)),
        )

    def test_up_only_where_across_is_none(self):
        wares = [(2, 1, False), (2, 1, False)]
        self.told((2, 2), wares, [(0, 0, False), (0, 1, False)], ("up", 1, ware(0), ware(1)))
        self.told((2, 2), [(1, 1, False)] * 4, [(0, 0, False), (1, 0, False), (0, 1, False), (1, 1, False)],
                  ("across", 1, ("up", 1, ware(0), ware(2)), ("up", 1, ware(1), ware(3))))

    def test_up_at_the_least_y_that_is_free(self):
        wares = [(3, 2, False), (2, 1, False), (2, 2, True)]
        self.told(
            (3, 5), wares, [(0, 3, False), (1, 0, False), (0, 1, True)],
            ("up", 1, ("across", 1, WASTE, ware(1)), ("up", 2, ("across", 2, ware(2, True), WASTE), ware(0))),
        )

    def test_turned_wares(self):
        self.told(
            (5, 2), [(1, 2, True), (3, 2, False)], [(3, 1, True), (0, 0, False)],
            ("across", 3, ware(1), ("up", 1, WASTE, ware(0, True))),
        )

    def test_shelves_are_cut_out(self):
        drawn = Numbers(33)
        for turn in range(60):
            width = drawn.upto(1, 20)
            wares = [(drawn.upto(1, width), drawn.upto(1, 9), drawn.truth()) for k in range(drawn.upto(0, 20))]
            for word in ("next", "first", "best"):
                height, places = shelved(width, wares, word)
                told = plan_of((width, height), wares, places)
                self.assertEqual(told[0], "plan")
                self.assertEqual(cut_places((width, height), wares, told[1]), places)

    def test_forty_wares_with_gaps(self):
        wares = [(1, 1, False)] * 40
        places = [(2 * k + 1, 2 * k + 1, False) for k in range(40)]
        told = plan_of((81, 81), wares, places)
        self.assertEqual(told[0], "plan")
        self.assertEqual(cut_places((81, 81), wares, told[1]), places)

    def test_great(self):
        wares = [(SIDE, SIDE, False)]
        self.told(
            (GREAT, GREAT), wares, [(GREAT - SIDE, 0, False)],
            ("across", GREAT - SIDE, WASTE, ("up", SIDE, ware(0), WASTE)),
        )


class Stuck(unittest.TestCase):
    def test_the_whole_box(self):
        told = plan_of((3, 3), PINWHEEL, PINWHEEL_PLACES)
        self.assertEqual(told, ("stuck", (0, 0, 3, 3), [0, 1, 2, 3, 4]))
        self.assertIs(type(told[2]), list)

    def test_with_a_hole(self):
        self.assertEqual(
            plan_of((3, 3), PINWHEEL[:4], PINWHEEL_PLACES[:4]), ("stuck", (0, 0, 3, 3), [0, 1, 2, 3]),
        )

    def test_a_part_of_the_box(self):
        wares = [(1, 1, False)] + PINWHEEL[:4]
        places = [(0, 0, False)] + [(x + 2, y + 1, lie) for x, y, lie in PINWHEEL_PLACES[:4]]
        self.assertEqual(plan_of((6, 5), wares, places), ("stuck", (2, 1, 5, 4), [1, 2, 3, 4]))

    def test_the_first_in_the_order_of_the_plan(self):
        wares = PINWHEEL[:4] + PINWHEEL[:4]
        right = [(x + 3, y, lie) for x, y, lie in PINWHEEL_PLACES[:4]]
        above = [(x, y + 3, lie) for x, y, lie in PINWHEEL_PLACES[:4]]
        self.assertEqual(
            plan_of((6, 3), wares, right + PINWHEEL_PLACES[:4]), ("stuck", (0, 0, 3, 3), [4, 5, 6, 7]),
        )
        self.assertEqual(
            plan_of((3, 6), wares, above + PINWHEEL_PLACES[:4]), ("stuck", (0, 0, 3, 3), [4, 5, 6, 7]),
        )
        self.assertEqual(
            plan_of((6, 3), wares, PINWHEEL_PLACES[:4] + right), ("stuck", (0, 0, 3, 3), [0, 1, 2, 3]),
        )

    def test_numbers_rise(self):
        wares = [PINWHEEL[k] for k in (3, 1, 0, 2)]
        places = [PINWHEEL_PLACES[k] for k in (3, 1, 0, 2)]
        self.assertEqual(plan_of((3, 3), wares, places)[2], [0, 1, 2, 3])


class HeldAgainstAWalkOverAllCuts(unittest.TestCase):
    def test_found_just_where_some_plan_cuts_out(self):
        cases = (
            ((3, 3), PINWHEEL[:4]),
            ((4, 2), [(2, 1, True), (1, 2, False), (1, 1, False)]),
            ((3, 3), [(2, 1, True), (2, 1, True), (1, 2, False)]),
        )
        seen = {"plan": 0, "stuck": 0}
        for box, wares in cases:
            for places in itertools.islice(packings(box, wares), 0, None, 3):
                places = list(places)
                spots = tuple(spot_of(one, place) for one, place in zip(wares, places))
                told = plan_of(box, wares, places)
                seen[told[0]] += 1
                self.assertEqual(told[0] == "plan", can_be_cut((0, 0) + box, spots))
                if told[0] == "plan":
                    self.assertIsNone(plan_fault(box, wares, told[1]))
                    self.assertEqual(cut_places(box, wares, told[1]), places)
                else:
                    within = [k for k in range(len(wares)) if inside(spots[k], told[1])]
                    self.assertEqual(told[2], within)
                    self.assertFalse(has_free_cut(told[1], [spots[k] for k in within]))
        self.assertGreater(seen["plan"], 50)

    def test_the_pinwheels_are_stuck(self):
        told = [plan_of((3, 3), PINWHEEL, list(places))[0] for places in packings((3, 3), PINWHEEL)]
        self.assertIn("stuck", told)


class NoPacking(unittest.TestCase):
    wares = [(2, 2, False), (1, 2, True)]

    def refused(self, places, why):
        with self.assertRaises(BadPacking) as caught:
            plan_of((4, 4), self.wares, places)
        self.assertEqual(caught.exception.why, why)

    def test_each_fault(self):
        self.refused([], ("count", 0))
        self.refused([(0, 0, False)] * 3, ("count", 3))
        self.refused([(0, 0, True), (2, 0, False)], ("turn", 0))
        self.refused([(0, 0, False), (3, 0, True)], ("out", 1))
        self.refused([(0, 0, False), (1, 1, False)], ("over", 0, 1))


class WhatIsHandedInAndTold(unittest.TestCase):
    def test_what_is_handed_in_stays(self):
        wares, places = list(PINWHEEL), list(PINWHEEL_PLACES)
        told = plan_of((3, 3), wares, places)
        told[2].clear()
        plan_of((3, 4), wares[:2], places[:2])
        self.assertEqual(wares, PINWHEEL)
        self.assertEqual(places, PINWHEEL_PLACES)
        self.assertEqual(plan_of((3, 3), wares, places)[2], [0, 1, 2, 3, 4])


if __name__ == "__main__":
    unittest.main()
