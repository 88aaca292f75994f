import inspect
import unittest

from cratefit.drawings import drawn, seen, tally
from cratefit.errors import BadPacking, NoDrawing, NoSheet
from cratefit.places import spot_of
from walks import packings

SIGNS = "0123456789abcdefghijklmnopqrstuvwxyzABCDEFGHIJKLMNOPQRSTUVWXYZ"


class TheInterface(unittest.TestCase):
    def test_arguments(self):
        self.assertEqual(str(inspect.signature(drawn)), "(box, wares, places)")
        self.assertEqual(str(inspect.signature(seen)), "(rows)")
        self.assertEqual(str(inspect.signature(tally)), "(rows)")


class Drawn(unittest.TestCase):
    def test_an_empty_box(self):
        self.assertEqual(drawn((3, 2), [], []), ["...", "..."])
        self.assertEqual(drawn((1, 1), [], []), ["."])

    def test_the_highest_row_first(self):
        self.assertEqual(
            drawn((5, 3), [(4, 1, False), (1, 2, True), (1, 1, False)], [(0, 0, False), (1, 2, True), (4, 1, False)]),
            [".11..", "....2", "0000."],
        )

    def test_flat_and_turned(self):
        self.assertEqual(drawn((2, 3), [(1, 3, True)], [(1, 0, False)]), [".0", ".0", ".0"])
        self.assertEqual(drawn((3, 2), [(1, 3, True)], [(0, 1, True)]), ["000", "..."])

    def test_the_signs_of_62_wares(self):
        wares = [(1, 1, False)] * 62
        places = [(k % 31, k // 31, False) for k in range(62)]
        self.assertEqual(drawn((31, 2), wares, places), [SIGNS[31:], SIGNS[:31]])

    def test_63_wares(self):
        wares = [(1, 1, False)] * 63
        places = [(k % 21, k // 21, False) for k in range(63)]
        self.assertRaises(NoSheet, drawn, (21, 3), wares, places)

    def test_sides_at_the_ends(self):
        for box in ((1, 1), (60, 60), (1, 60), (60, 1)):
            told = drawn(box, [], [])
            self.assertEqual(told, ["." * box[0]] * box[1])
        for box in ((0, 0), (0, 5), (5, 0), (61, 5), (5, 61), (61, 61), (10 ** 42, 1), (1, 10 ** 42)):
            self.assertRaises(NoSheet, drawn, box, [], [])

    def refused(self, places, why):
        with self.assertRaises(BadPacking) as caught:
            drawn((4, 4), [(2, 2, False), (1, 2, True)], places)
        self.assertEqual(caught.exception.why, why)

    def test_each_fault(self):
        self.refused([], ("count", 0))
        self.refused([(0, 0, False)] * 3, ("count", 3))
        self.refused([(0, 0, True), (2, 0, False)], ("turn", 0))
        self.refused([(0, 0, False), (3, 0, True)], ("out", 1))
        self.refused([(0, 0, False), (1, 1, False)], ("over", 0, 1))

    def test_no_sheet_comes_ahead_of_a_fault(self):
        self.assertRaises(NoSheet, drawn, (61, 4), [(2, 2, False)], [])
        self.assertRaises(NoSheet, drawn, (4, 0), [(2, 2, False)], [(0, 0, True)])
        self.assertRaises(NoSheet, drawn, (4, 4), [(1, 1, False)] * 63, [])


class Seen(unittest.TestCase):
    def test_an_empty_box(self):
        told = seen(["...", "..."])
        self.assertEqual(told, ((3, 2), []))
        self.assertIs(type(told), tuple)
        self.assertIs(type(told[0]), tuple)
        self.assertIs(type(told[1]), list)

    def test_spots_counted_from_below(self):
        self.assertEqual(
            seen([".11..", "....2", "0000."]),
            ((5, 3), [(0, 0, 0, 4, 1), (1, 1, 2, 3, 3), (2, 4, 1, 5, 2)]),
        )

    def test_rising_numbers_and_signs_that_lack(self):
        self.assertEqual(
            seen(["Z.9", "aaA", "aaA"]),
            ((3, 3), [(9, 2, 2, 3, 3), (10, 0, 0, 2, 2), (36, 2, 0, 3, 2), (61, 0, 2, 1, 3)]),
        )

    def test_all_signs(self):
        self.assertEqual(seen([SIGNS[:31], SIGNS[31:]])[1][0], (0, 0, 1, 1, 2))
        self.assertEqual([one[0] for one in seen([SIGNS[:31], SIGNS[31:]])[1]], list(range(62)))

    def test_sides_at_the_ends(self):
        self.assertEqual(seen(["0"]), ((1, 1), [(0, 0, 0, 1, 1)]))
        self.assertEqual(seen(["0" * 60] * 60), ((60, 60), [(0, 0, 0, 60, 60)]))

    def refused(self, *rows):
        with self.subTest(rows=rows):
            self.assertRaises(NoDrawing, seen, list(rows))

    def test_no_rows_or_too_many(self):
        self.refused()
        self.refused(*["."] * 61)

    def test_rows_that_are_empty_or_too_long(self):
        self.refused("")
        self.refused("", "")
        self.refused("." * 61)
        self.refused("." * 61, "." * 61)

    def test_rows_unlike_long(self):
        self.refused("..", ".")
        self.refused(".", "..")
        self.refused("..", "..", "")
        self.refused("", "..")
        self.refused("..", "." * 61)

    def test_other_signs(self):
        for sign in (" ", "-", "!", "#", "*", "~", "/", ":", "@", "[", "`", "{", ","):
            self.refused("0" + sign)
            self.refused("..", "." + sign)

    def test_places_that_fill_no_rectangle(self):
        self.refused("0.0")
        self.refused("0", ".", "0")
        self.refused("00", "0.")
        self.refused("00", ".0")
        self.refused("000", "0.0", "000")
        self.refused("000", "010", "000")
        self.refused("0.", ".0")
        self.refused("00.", "00.", "..0")

    def test_points_may_stand_anywhere(self):
        self.assertEqual(seen([".0.", "...", "1.2"])[1], [(0, 1, 2, 2, 3), (1, 0, 0, 1, 1), (2, 2, 0, 3, 1)])

    def test_what_is_drawn_is_read_back(self):
        wares = [(2, 1, True), (1, 1, False), (1, 2, False)]
        for places in packings((4, 3), wares):
            box, told = seen(drawn((4, 3), wares, list(places)))
            self.assertEqual(box, (4, 3))
            self.assertEqual(told, [(k,) + spot_of(wares[k], places[k]) for k in range(3)])


class Tally(unittest.TestCase):
    def test_none(self):
        self.assertEqual(tally([]), [])
        self.assertEqual(tally([""]), [])
        self.assertEqual(tally(["...", ""]), [])

    def test_the_most_first(self):
        self.assertEqual(tally(["001", "111"]), [("1", 4), ("0", 2)])
        self.assertIs(type(tally(["0"])[0]), tuple)

    def test_like_ones_in_the_order_of_the_signs(self):
        self.assertEqual(tally(["ZAza90"]), [("0", 1), ("9", 1), ("a", 1), ("z", 1), ("A", 1), ("Z", 1)])
        self.assertEqual(tally(["Ab", "bA", "cc9"]), [("b", 2), ("c", 2), ("A", 2), ("9", 1)])

    def test_rows_unlike_long_and_other_signs(self):
        self.assertEqual(tally(["a b", "", "..-..b,", "~/!"]), [("b", 2), ("a", 1)])

    def test_no_rectangles_are_asked_for(self):
        self.assertEqual(tally(["0.0", ".0."] * 50), [("0", 150)])

    def test_all_signs(self):
        self.assertEqual(tally([SIGNS[::-1]]), [(sign, 1) for sign in SIGNS])


class WhatIsHandedInAndTold(unittest.TestCase):
    def test_what_is_handed_in_stays(self):
        wares, places, rows = [(2, 1, True)], [(0, 0, True)], ["0.", "0."]
        drawn((2, 2), wares, places)
        seen(rows)
        tally(rows)
        self.assertEqual((wares, places, rows), ([(2, 1, True)], [(0, 0, True)], ["0.", "0."]))

    def test_told_lists_are_the_askers_own(self):
        asked = (
            lambda: drawn((2, 2), [], []), lambda: seen([".."])[1], lambda: seen(["0."])[1],
            lambda: tally([]), lambda: tally(["0"]),
        )
        for ask in asked:
            told = ask()
            kept = list(told)
            self.assertIs(type(told), list)
            told.append("more")
            self.assertEqual(ask(), kept)


if __name__ == "__main__":
    unittest.main()
