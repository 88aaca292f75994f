import inspect
import itertools
import unittest

from cratefit.errors import TooMany, TooWide
from cratefit.papers import bars_all
from cratefit.places import packed
from cratefit.search import fit
from cratefit.strips import heights_of, lowest
from walks import Numbers, has_packing, small_wares

SIDE = 10 ** 40
GREAT = 10 ** 42


def plain_heights(wares):
    takes = [[0, h] + ([w] if turns and w != h else []) for w, h, turns in wares]
    return sorted(set(sum(taken) for taken in itertools.product(*takes)))


class TheInterface(unittest.TestCase):
    def test_arguments(self):
        self.assertEqual(str(inspect.signature(heights_of)), "(wares)")
        self.assertEqual(str(inspect.signature(lowest)), "(width, wares)")


class HeightsOf(unittest.TestCase):
    def test_no_wares(self):
        self.assertEqual(heights_of([]), [0])

    def test_one_ware(self):
        self.assertEqual(heights_of([(5, 3, False)]), [0, 3])
        self.assertEqual(heights_of([(5, 3, True)]), [0, 3, 5])
        self.assertEqual(heights_of([(3, 5, True)]), [0, 3, 5])
        self.assertEqual(heights_of([(4, 4, True)]), [0, 4])

    def test_sums_each_once(self):
        self.assertEqual(heights_of([(9, 1, False), (9, 2, False), (9, 3, False)]), [0, 1, 2, 3, 4, 5, 6])
        self.assertEqual(heights_of([(2, 1, True), (1, 1, True)]), [0, 1, 2, 3])

    def test_held_against_all_takes(self):
        drawn = Numbers(3)
        for turn in range(60):
            wares = drawn.wares(drawn.upto(0, 5), 20)
            self.assertEqual(heights_of(wares), plain_heights(wares))

    def test_five_and_six(self):
        self.assertEqual(heights_of([(1, SIDE, True)] * 5)[-1], 5 * SIDE)
        self.assertEqual(heights_of([(3 ** k, 2 * 3 ** k, True) for k in range(5)]), list(range(243)))
        self.assertRaises(TooMany, heights_of, [(1, 1, False)] * 6)


class Lowest(unittest.TestCase):
    def whole(self, width, wares):
        height, places, paper = lowest(width, wares)
        self.assertIn(height, heights_of(wares))
        self.assertEqual(("places", places), fit((width, height), wares))
        self.assertEqual(("barred", paper), fit((width, height - 1), wares))
        self.assertTrue(packed((width, height), wares, places))
        self.assertTrue(bars_all((width, height - 1), wares, paper))
        return height

    def test_no_wares(self):
        for width in (0, 1, GREAT):
            told = lowest(width, [])
            self.assertEqual(told, (0, [], None))
            self.assertIs(type(told), tuple)

    def test_one_ware(self):
        self.assertEqual(lowest(5, [(5, 3, False)]), (3, [(0, 0, False)], ("chain", "up", [0])))
        self.assertEqual(lowest(5, [(3, 5, False)]), (5, [(0, 0, False)], ("chain", "up", [0])))
        self.assertEqual(
            lowest(5, [(3, 5, True)]),
            (3, [(0, 0, True)], ("turn", 0, ("chain", "up", [0]), ("chain", "up", [0]))),
        )
        self.assertEqual(self.whole(4, [(5, 3, True)]), 5)

    def test_some(self):
        self.assertEqual(self.whole(3, [(2, 1, True)] * 4 + [(1, 1, False)]), 3)
        self.assertEqual(self.whole(4, [(2, 2, False)] * 5), 6)
        self.assertEqual(self.whole(10, [(2, 2, False)] * 5), 2)
        self.assertEqual(self.whole(2, [(2, 2, False)] * 5), 10)

    def test_held_against_a_walk_over_all_places(self):
        for width in (1, 2, 3, 4):
            for wares in itertools.chain(small_wares(1, 3), small_wares(2, 3), small_wares(3, 2)):
                if any(w > width and not (turns and h <= width) for w, h, turns in wares):
                    continue
                height = self.whole(width, wares)
                self.assertTrue(has_packing((width, height), wares))
                self.assertFalse(has_packing((width, height - 1), wares))

    def test_five_wares(self):
        drawn = Numbers(31)
        for turn in range(8):
            wares = drawn.wares(5, 7)
            self.whole(drawn.upto(7, 16), wares)

    def test_great(self):
        self.assertEqual(self.whole(2 * SIDE, [(SIDE, SIDE - 1, False)] * 3), 2 * SIDE - 2)
        self.assertEqual(self.whole(GREAT, [(SIDE, SIDE - 1, True)] * 5), SIDE - 1)

    def test_too_many_comes_first(self):
        self.assertRaises(TooMany, lowest, 9, [(1, 1, False)] * 6)
        self.assertRaises(TooMany, lowest, 0, [(1, 1, False)] * 6)

    def refused(self, width, wares, at):
        with self.assertRaises(TooWide) as caught:
            lowest(width, wares)
        self.assertEqual(caught.exception.at, at)

    def test_too_wide(self):
        self.refused(0, [(1, 1, False)], 0)
        self.refused(4, [(5, 1, False)], 0)
        self.refused(4, [(4, 9, False), (5, 1, True), (5, 5, True), (6, 1, False)], 2)
        self.refused(4, [(1, 1, False), (5, 6, True), (9, 9, False)], 1)

    def test_just_wide_enough(self):
        self.assertEqual(self.whole(5, [(5, 1, False)]), 1)
        self.assertEqual(self.whole(1, [(5, 1, True)]), 5)


class WhatIsHandedInAndTold(unittest.TestCase):
    def test_what_is_handed_in_stays(self):
        wares = [(2, 1, True), (3, 2, False)]
        heights_of(wares)
        lowest(4, wares)
        self.assertEqual(wares, [(2, 1, True), (3, 2, False)])

    def test_told_lists_are_the_askers_own(self):
        asked = (
            lambda: heights_of([]), lambda: heights_of([(2, 1, True)]),
            lambda: lowest(4, [])[1], lambda: lowest(4, [(2, 1, True)])[1],
        )
        for ask in asked:
            told = ask()
            kept = list(told)
            self.assertIs(type(told), list)
            told.append("more")
            self.assertEqual(ask(), kept)


if __name__ == "__main__":
    unittest.main()
