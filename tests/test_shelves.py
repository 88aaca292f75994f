import inspect
import unittest

from cratefit.errors import NoPicker, TooWide
from cratefit.places import packed
from cratefit.shelves import BestShelver, FirstShelver, Shelver, shelved, shelver_of
from walks import Numbers

SIDE = 10 ** 40
GREAT = 10 ** 42

WORDS = ("next", "first", "best")


class TheInterface(unittest.TestCase):
    def test_arguments(self):
        for kind in (Shelver, FirstShelver, BestShelver):
            self.assertEqual(str(inspect.signature(kind)), "()")
            self.assertEqual(str(inspect.signature(kind.pick)), "(self, rooms, w)")
        self.assertEqual(str(inspect.signature(shelver_of)), "(word)")
        self.assertEqual(str(inspect.signature(shelved)), "(width, wares, word='next')")

    def test_the_classes(self):
        self.assertEqual(Shelver.__bases__, (object,))
        self.assertEqual(FirstShelver.__bases__, (Shelver,))
        self.assertEqual(BestShelver.__bases__, (Shelver,))
        self.assertIs(type(shelver_of("next")), Shelver)
        self.assertIs(type(shelver_of("first")), FirstShelver)
        self.assertIs(type(shelver_of("best")), BestShelver)


class Pickers(unittest.TestCase):
    def picks(self, rooms, w, of_next, of_first, of_best):
        for kind, expected in ((Shelver, of_next), (FirstShelver, of_first), (BestShelver, of_best)):
            with self.subTest(kind=kind.__name__, rooms=rooms, w=w):
                told = kind().pick(rooms, w)
                self.assertEqual(told, expected)
                self.assertEqual(told is None, expected is None)

    def test_no_shelf(self):
        self.picks([], 1, None, None, None)

    def test_no_room(self):
        self.picks([0], 1, None, None, None)
        self.picks([2, 2, 2], 3, None, None, None)

    def test_just_the_width(self):
        self.picks([3], 3, 0, 0, 0)
        self.picks([2], 3, None, None, None)
        self.picks([4], 3, 0, 0, 0)

    def test_each_picks_its_own(self):
        self.picks([2, 7, 4, 5], 3, 3, 1, 2)
        self.picks([2, 7, 4, 2], 3, None, 1, 2)
        self.picks([3, 9, 1], 3, None, 0, 0)
        self.picks([9, 3, 1], 3, None, 0, 1)

    def test_rooms_alike(self):
        self.picks([5, 5, 5], 5, 2, 0, 0)
        self.picks([1, 6, 5, 5], 5, 3, 1, 2)

    def test_great(self):
        self.picks([GREAT, GREAT - 1, GREAT - 2], GREAT - 1, None, 0, 1)

    def test_the_rooms_stay(self):
        rooms = [2, 7, 4, 5]
        for kind in (Shelver, FirstShelver, BestShelver):
            kind().pick(rooms, 3)
        self.assertEqual(rooms, [2, 7, 4, 5])


class OtherWords(unittest.TestCase):
    def test_refused(self):
        for word in ("", " ", "Next", "NEXT", "next ", " first", "last", "worst", "nextfirst", "n"):
            with self.subTest(word=word):
                self.assertRaises(NoPicker, shelver_of, word)
                self.assertRaises(NoPicker, shelved, 9, [], word)
                self.assertRaises(NoPicker, shelved, 9, [(1, 1, False)], word)

    def test_ahead_of_too_wide(self):
        self.assertRaises(NoPicker, shelved, 0, [(1, 1, False)], "last")


class Shelved(unittest.TestCase):
    def test_no_wares(self):
        for word in WORDS:
            self.assertEqual(shelved(0, [], word), (0, []))
            self.assertEqual(shelved(9, [], word), (0, []))
        self.assertIs(type(shelved(9, [])), tuple)

    def test_one_ware(self):
        for word in WORDS:
            self.assertEqual(shelved(4, [(4, 3, True)], word), (3, [(0, 0, False)]))

    def test_side_by_side_by_height(self):
        wares = [(2, 1, False), (3, 5, False), (4, 3, True)]
        for word in WORDS:
            self.assertEqual(shelved(9, wares, word), (5, [(7, 0, False), (0, 0, False), (3, 0, False)]))

    def test_a_new_shelf_is_as_high_as_its_first_ware(self):
        wares = [(3, 5, False), (3, 4, False), (3, 3, False), (3, 2, False)]
        for word in WORDS:
            self.assertEqual(
                shelved(6, wares, word),
                (8, [(0, 0, False), (3, 0, False), (0, 5, False), (3, 5, False)]),
            )

    def test_all_lie_flat(self):
        for word in WORDS:
            self.assertEqual(shelved(5, [(2, 4, True), (4, 2, True)], word), (6, [(0, 0, False), (0, 4, False)]))

    def test_the_pickers_go_unlike_ways(self):
        wares = [(6, 9, False), (7, 8, False), (8, 7, False), (2, 3, False), (2, 2, False)]
        first = [(0, 0, False), (0, 9, False), (0, 17, False)]
        self.assertEqual(shelved(10, wares, "next"), (26, first + [(8, 17, False), (0, 24, False)]))
        self.assertEqual(shelved(10, wares), shelved(10, wares, "next"))
        self.assertEqual(shelved(10, wares, "first"), (24, first + [(6, 0, False), (8, 0, False)]))
        self.assertEqual(shelved(10, wares, "best"), (24, first + [(8, 17, False), (7, 9, False)]))

    def test_next_does_not_go_back(self):
        wares = [(5, 4, False), (8, 3, False), (4, 2, False)]
        self.assertEqual(shelved(9, wares, "next"), (9, [(0, 0, False), (0, 4, False), (0, 7, False)]))
        self.assertEqual(shelved(9, wares, "first"), (7, [(0, 0, False), (0, 4, False), (5, 0, False)]))

    def test_like_heights_the_wider_first_then_the_lesser_number(self):
        wares = [(1, 2, False), (3, 2, False), (1, 2, True)]
        for word in WORDS:
            self.assertEqual(shelved(9, wares, word), (2, [(3, 0, False), (0, 0, False), (4, 0, False)]))

    def refused(self, width, wares, at):
        for word in WORDS:
            with self.assertRaises(TooWide) as caught:
                shelved(width, wares, word)
            self.assertEqual(caught.exception.at, at)

    def test_too_wide(self):
        self.refused(0, [(1, 1, False)], 0)
        self.refused(4, [(4, 9, False), (5, 1, True), (6, 7, False)], 1)
        self.refused(4, [(4, 4, False), (4, 1, False), (5, 1, False)], 2)

    def test_just_wide_enough(self):
        self.assertEqual(shelved(5, [(5, 1, False)]), (1, [(0, 0, False)]))

    def test_great(self):
        wares = [(SIDE, SIDE, False)] * 3
        self.assertEqual(
            shelved(2 * SIDE, wares, "best"),
            (2 * SIDE, [(0, 0, False), (SIDE, 0, False), (0, SIDE, False)]),
        )
        self.assertEqual(shelved(GREAT, wares)[0], SIDE)


class TheBound(unittest.TestCase):
    def holds(self, width, wares):
        for word in WORDS:
            height, places = shelved(width, wares, word)
            self.assertTrue(packed((width, height), wares, places))
            tallest = max((h for w, h, turns in wares), default=0)
            area = sum(w * h for w, h, turns in wares)
            self.assertLessEqual((width + 1) * (height - tallest), 2 * area)

    def test_drawn_wares(self):
        drawn = Numbers(28)
        for turn in range(200):
            width = drawn.upto(1, 30)
            wares = [(drawn.upto(1, width), drawn.upto(1, 20), drawn.truth()) for k in range(drawn.upto(0, 25))]
            self.holds(width, wares)

    def test_half_the_width_and_a_little_more(self):
        for width in (3, 4, 9, 10):
            self.holds(width, [(width // 2 + 1, 5, False)] * 20)

    def test_a_hundred_wares(self):
        drawn = Numbers(29)
        self.holds(50, drawn.wares(100, 50))


class WhatIsHandedInAndTold(unittest.TestCase):
    def test_what_is_handed_in_stays(self):
        wares = [(2, 1, True), (3, 2, False)]
        for word in WORDS:
            shelved(4, wares, word)
        self.assertEqual(wares, [(2, 1, True), (3, 2, False)])

    def test_told_lists_are_the_askers_own(self):
        for wares in ([], [(2, 1, True)]):
            told = shelved(4, wares)[1]
            kept = list(told)
            self.assertIs(type(told), list)
            told.append("more")
            self.assertEqual(shelved(4, wares)[1], kept)


if __name__ == "__main__":
    unittest.main()
