import inspect
import unittest

from cratefit.errors import BadPlan
from cratefit.places import packed
from cratefit.plans import count_cuts, cut_places, pieces_of, plan_fault

SIDE = 10 ** 40
GREAT = 10 ** 42
WASTE = ("waste",)


def ware(k, lie=False):
    return ("ware", k, lie)


def across(at, first, second):
    return ("across", at, first, second)


def up(at, first, second):
    return ("up", at, first, second)


def row_of(count):
    """A plan that cuts off so many wares of width 1, each within the one ahead."""
    plan = ware(count - 1)
    for k in range(count - 2, -1, -1):
        plan = across(1, ware(k), plan)
    return plan


class TheInterface(unittest.TestCase):
    def test_arguments(self):
        self.assertEqual(str(inspect.signature(plan_fault)), "(box, wares, plan)")
        self.assertEqual(str(inspect.signature(pieces_of)), "(box, plan)")
        self.assertEqual(str(inspect.signature(cut_places)), "(box, wares, plan)")
        self.assertEqual(str(inspect.signature(count_cuts)), "(plan)")


class Whole(unittest.TestCase):
    """Plans without fault."""

    wares = [(4, 3, False), (2, 5, True), (1, 1, False)]
    plan = across(4, up(3, ware(0), WASTE), up(2, ware(1, True), across(1, up(1, ware(2), WASTE), WASTE)))
    box = (9, 5)

    def test_no_fault(self):
        self.assertIsNone(plan_fault(self.box, self.wares, self.plan))

    def test_pieces(self):
        told = pieces_of(self.box, self.plan)
        self.assertEqual(told, [
            ((0, 0, 4, 3), ware(0)),
            ((0, 3, 4, 5), WASTE),
            ((4, 0, 9, 2), ware(1, True)),
            ((4, 2, 5, 3), ware(2)),
            ((4, 3, 5, 5), WASTE),
            ((5, 2, 9, 5), WASTE),
        ])
        self.assertIs(type(told[0]), tuple)

    def test_places(self):
        told = cut_places(self.box, self.wares, self.plan)
        self.assertEqual(told, [(0, 0, False), (4, 0, True), (4, 2, False)])
        self.assertTrue(packed(self.box, self.wares, told))

    def test_cuts(self):
        self.assertEqual(count_cuts(self.plan), 5)

    def test_no_cuts(self):
        self.assertIsNone(plan_fault((9, 9), [], WASTE))
        self.assertEqual(pieces_of((9, 9), WASTE), [((0, 0, 9, 9), WASTE)])
        self.assertEqual(cut_places((9, 9), [], WASTE), [])
        self.assertEqual(count_cuts(WASTE), 0)
        self.assertIsNone(plan_fault((4, 3), self.wares[:1], ware(0)))
        self.assertEqual(pieces_of((4, 3), ware(0)), [((0, 0, 4, 3), ware(0))])
        self.assertEqual(cut_places((4, 3), self.wares[:1], ware(0)), [(0, 0, False)])
        self.assertEqual(count_cuts(ware(0)), 0)

    def test_sides_of_nought(self):
        for box in ((0, 0), (0, 9), (9, 0)):
            self.assertIsNone(plan_fault(box, [], WASTE))
            self.assertEqual(pieces_of(box, WASTE), [((0, 0) + box, WASTE)])

    def test_a_square_turned(self):
        self.assertIsNone(plan_fault((5, 5), [(5, 5, True)], ware(0, True)))
        self.assertEqual(cut_places((5, 5), [(5, 5, True)], ware(0, True)), [(0, 0, True)])

    def test_the_order_of_the_plan_is_not_that_of_the_wares(self):
        wares = [(1, 1, False), (2, 1, False)]
        plan = across(2, ware(1), ware(0))
        self.assertEqual(pieces_of((3, 1), plan), [((0, 0, 2, 1), ware(1)), ((2, 0, 3, 1), ware(0))])
        self.assertEqual(cut_places((3, 1), wares, plan), [(2, 0, False), (0, 0, False)])

    def test_cuts_count_from_the_pieces_own_side(self):
        plan = across(3, WASTE, up(2, WASTE, across(1, WASTE, up(1, WASTE, ware(0)))))
        self.assertEqual(cut_places((9, 9), [(5, 6, False)], plan), [(4, 3, False)])

    def test_two_hundred_within_one_another(self):
        wares = [(1, 1, False)] * 100
        plan = row_of(100)
        box = (100, 101)
        for k in range(100):
            plan = up(1, WASTE, plan)
        self.assertIsNone(plan_fault(box, wares, plan))
        self.assertEqual(count_cuts(plan), 199)
        self.assertEqual(cut_places(box, wares, plan), [(k, 100, False) for k in range(100)])
        self.assertEqual(len(pieces_of(box, plan)), 200)

    def test_deep_in_the_second_part_and_in_the_first(self):
        first, second = WASTE, WASTE
        for k in range(1, 221):
            first = across(k, first, WASTE)
            second = across(1, WASTE, second)
        for plan in (first, second):
            self.assertIsNone(plan_fault((221, 1), [], plan))
            self.assertEqual(count_cuts(plan), 220)
            self.assertEqual([spot[0] for spot, leaf in pieces_of((221, 1), plan)], list(range(221)))

    def test_great(self):
        wares = [(SIDE, SIDE, False)]
        plan = across(GREAT - SIDE, WASTE, up(GREAT - SIDE, WASTE, ware(0)))
        self.assertEqual(cut_places((GREAT, GREAT), wares, plan), [(GREAT - SIDE, GREAT - SIDE, False)])


class Faults(unittest.TestCase):
    wares = [(4, 3, False), (2, 5, True), (1, 1, False)]

    def told(self, box, plan, expected, wares=None):
        wares = self.wares if wares is None else wares
        with self.subTest(box=box, plan=plan):
            self.assertEqual(plan_fault(box, wares, plan), expected)
            with self.assertRaises(BadPlan) as caught:
                cut_places(box, wares, plan)
            self.assertEqual(caught.exception.why, expected)

    def test_cuts_at_the_ends_and_beyond(self):
        for at in (0, -1, 9, 10, GREAT, -GREAT):
            self.told((9, 5), across(at, WASTE, WASTE), ("cut", at), [])
            self.told((5, 9), up(at, WASTE, WASTE), ("cut", at), [])
        for at in (1, 8):
            self.assertIsNone(plan_fault((9, 5), [], across(at, WASTE, WASTE)))
            self.assertIsNone(plan_fault((5, 9), [], up(at, WASTE, WASTE)))

    def test_each_cut_goes_by_its_own_side(self):
        self.told((9, 5), up(5, WASTE, WASTE), ("cut", 5), [])
        self.told((9, 5), up(8, WASTE, WASTE), ("cut", 8), [])
        self.told((5, 9), across(5, WASTE, WASTE), ("cut", 5), [])

    def test_no_cut_through_a_side_of_nought_or_one(self):
        self.told((0, 5), across(0, WASTE, WASTE), ("cut", 0), [])
        self.told((0, 5), across(1, WASTE, WASTE), ("cut", 1), [])
        self.told((1, 5), across(1, WASTE, WASTE), ("cut", 1), [])
        self.told((5, 0), up(1, WASTE, WASTE), ("cut", 1), [])

    def test_cuts_of_a_piece(self):
        self.told((9, 5), across(4, across(4, WASTE, WASTE), WASTE), ("cut", 4), [])
        self.told((9, 5), across(4, WASTE, across(5, WASTE, WASTE)), ("cut", 5), [])
        self.told((5, 9), up(4, up(4, WASTE, WASTE), WASTE), ("cut", 4), [])
        self.told((5, 9), up(4, WASTE, up(5, WASTE, WASTE)), ("cut", 5), [])
        self.assertIsNone(plan_fault((9, 5), [], across(4, across(3, WASTE, WASTE), across(4, WASTE, WASTE))))
        self.assertIsNone(plan_fault((5, 9), [], up(4, up(3, WASTE, WASTE), up(4, WASTE, WASTE))))

    def test_a_number_that_no_ware_has(self):
        for k in (-1, -3, 3, GREAT, -GREAT):
            self.told((4, 3), ware(k), ("ware", k))
        self.told((4, 3), ware(0), ("ware", 0), [])

    def test_one_that_stood_there_before(self):
        self.told((8, 3), across(4, ware(0), ware(0)), ("ware", 0))

    def test_a_lie_that_may_not_be(self):
        self.told((3, 4), ware(0, True), ("ware", 0))
        self.told((1, 1), ware(2, True), ("ware", 2))

    def test_sides_that_are_not_the_pieces(self):
        for box in ((4, 4), (5, 3), (3, 3), (4, 2), (3, 4), (12, 1)):
            self.told(box, ware(0), ("ware", 0))
        self.told((2, 5), ware(1, True), ("ware", 1))
        self.told((5, 2), ware(1), ("ware", 1))

    def test_lacks(self):
        self.told((9, 9), WASTE, ("lacks", 0))
        self.told((4, 3), ware(0), ("lacks", 1))
        self.told((5, 3), across(4, ware(0), up(1, ware(2), WASTE)), ("lacks", 1))
        self.told((1, 1), ware(2), ("lacks", 0))

    def test_lacks_comes_behind_all(self):
        self.told((5, 3), across(4, ware(1), ware(2)), ("ware", 1))
        self.told((5, 3), across(4, WASTE, up(3, WASTE, WASTE)), ("cut", 3))

    def test_a_cut_comes_ahead_of_its_parts(self):
        self.told((9, 5), across(9, ware(7), across(0, WASTE, WASTE)), ("cut", 9))
        self.told((9, 5), across(4, up(9, ware(7), WASTE), ware(8)), ("cut", 9))

    def test_the_first_part_whole_ahead_of_the_second(self):
        deep = up(1, WASTE, up(1, WASTE, across(2, WASTE, ware(7))))
        self.told((9, 5), across(4, deep, across(0, WASTE, WASTE)), ("ware", 7))
        self.told((9, 5), across(4, across(0, WASTE, WASTE), deep), ("cut", 0))
        self.told((9, 5), across(4, WASTE, up(2, ware(8), ware(9))), ("ware", 8))

    def test_a_ware_counts_as_stood_in_the_order_of_the_plan(self):
        wares = [(4, 3, False), (4, 3, False)]
        self.told((12, 3), across(4, ware(1), across(4, ware(0), ware(1))), ("ware", 1), wares)
        self.told((12, 3), across(4, ware(1), across(4, ware(1), ware(0))), ("ware", 1), wares)


class WhatIsHandedInAndTold(unittest.TestCase):
    def test_what_is_handed_in_stays(self):
        wares = [(2, 1, False), (1, 1, False)]
        plan = across(2, ware(0), ware(1))
        plan_fault((3, 1), wares, plan)
        pieces_of((3, 1), plan)
        cut_places((3, 1), wares, plan)
        count_cuts(plan)
        self.assertEqual(wares, [(2, 1, False), (1, 1, False)])
        self.assertEqual(plan, across(2, ware(0), ware(1)))

    def test_told_lists_are_the_askers_own(self):
        asked = (
            lambda: pieces_of((3, 1), WASTE), lambda: pieces_of((3, 1), across(2, WASTE, WASTE)),
            lambda: cut_places((3, 1), [], WASTE), lambda: cut_places((3, 1), [(3, 1, False)], ware(0)),
        )
        for ask in asked:
            told = ask()
            kept = list(told)
            self.assertIs(type(told), list)
            told.append("more")
            self.assertEqual(ask(), kept)

    def test_the_leaf_as_it_stands_in_the_plan(self):
        leaf = ware(0, True)
        self.assertIs(pieces_of((3, 1), across(2, leaf, WASTE))[0][1], leaf)


if __name__ == "__main__":
    unittest.main()
