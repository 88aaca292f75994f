import inspect
import unittest

from cratefit.errors import NoText
from cratefit.texts import read_case, read_ware, shown_case, shown_ware, table

MOST_WARE = 10 ** 40
MOST_BOX = 10 ** 42

WRONG_NUMBERS = (
    "", "01", "00", "007", "-1", "+1", "-0", "+0", " 1", "1 ", "1_0", "1.0", "1,0", "1e3", "0x1", "a",
    "l", "O", "\u0661", "\u00b2", "\uff11", "1\n", "\t1", str(MOST_BOX + 1), "1" * 44, "9" * 5000, "9" * 100000,
    "0" * 50 + "1",
)


class TheInterface(unittest.TestCase):
    def test_arguments(self):
        self.assertEqual(str(inspect.signature(shown_ware)), "(ware)")
        self.assertEqual(str(inspect.signature(shown_case)), "(box, wares)")
        self.assertEqual(str(inspect.signature(read_ware)), "(text)")
        self.assertEqual(str(inspect.signature(read_case)), "(text)")
        self.assertEqual(str(inspect.signature(table)), "(places)")


class Shown(unittest.TestCase):
    def test_a_ware(self):
        self.assertEqual(shown_ware((12, 7, False)), "12x7")
        self.assertEqual(shown_ware((3, 4, True)), "3x4+")
        self.assertEqual(shown_ware((1, MOST_WARE, True)), "1x1" + "0" * 40 + "+")

    def test_a_case(self):
        self.assertEqual(shown_case((40, 30), [(12, 7, False), (3, 4, True)]), "40x30: 12x7 3x4+")
        self.assertEqual(shown_case((40, 30), [(3, 4, True), (12, 7, False)]), "40x30: 3x4+ 12x7")
        self.assertEqual(shown_case((10, 10), []), "10x10:")
        self.assertEqual(shown_case((0, 0), [(1, 1, False)]), "0x0: 1x1")
        self.assertEqual(shown_case((0, MOST_BOX), []), "0x1" + "0" * 42 + ":")

    def test_the_wares_that_were_handed_in_stay(self):
        wares = [(12, 7, False), (3, 4, True)]
        shown_case((40, 30), wares)
        self.assertEqual(wares, [(12, 7, False), (3, 4, True)])


class Read(unittest.TestCase):
    def test_a_ware(self):
        self.assertEqual(read_ware("12x7"), (12, 7, False))
        self.assertEqual(read_ware("3x4+"), (3, 4, True))
        self.assertIs(type(read_ware("12x7")), tuple)
        self.assertIs(read_ware("12x7")[2], False)
        self.assertIs(read_ware("3x4+")[2], True)

    def test_a_case(self):
        told = read_case("40x30: 12x7 3x4+")
        self.assertEqual(told, ((40, 30), [(12, 7, False), (3, 4, True)]))
        self.assertIs(type(told), tuple)
        self.assertIs(type(told[0]), tuple)
        self.assertEqual(read_case("0x0:"), ((0, 0), []))

    def test_a_ware_that_is_written_is_read_to_the_same(self):
        sides = (1, 2, 9, 10, 11, 100, 4096, MOST_WARE - 1, MOST_WARE)
        for w in sides:
            for h in sides:
                for turns in (False, True):
                    self.assertEqual(read_ware(shown_ware((w, h, turns))), (w, h, turns))

    def test_a_case_that_is_written_is_read_to_the_same(self):
        hundred = [(k + 1, MOST_WARE - k, k % 3 == 0) for k in range(100)]
        for box in ((0, 0), (0, 1), (1, 0), (40, 30), (MOST_BOX, MOST_BOX), (MOST_BOX - 1, 0)):
            for wares in ([], [(1, 1, False)], [(MOST_WARE, MOST_WARE, True)], hundred):
                self.assertEqual(read_case(shown_case(box, wares)), (box, wares))

    def test_a_list_that_was_read_is_the_askers_own(self):
        for text in ("40x30:", "40x30: 12x7"):
            told = read_case(text)[1]
            kept = list(told)
            told.append((1, 1, False))
            self.assertEqual(read_case(text)[1], kept)


class Refused(unittest.TestCase):
    def refused_ware(self, text):
        with self.subTest(ware=text[:60]):
            self.assertRaises(NoText, read_ware, text)
            self.assertRaises(NoText, read_case, f"40x30: {text}")
            self.assertRaises(NoText, read_case, f"40x30: 12x7 {text} 12x7")

    def refused_case(self, text):
        with self.subTest(case=text[:60]):
            self.assertRaises(NoText, read_case, text)

    def test_wrong_numbers_in_a_ware(self):
        for wrong in WRONG_NUMBERS + ("0", str(MOST_WARE + 1), str(MOST_BOX)):
            self.refused_ware(f"{wrong}x7")
            self.refused_ware(f"12x{wrong}")
            self.refused_ware(f"12x{wrong}+")

    def test_wrong_numbers_in_a_box(self):
        for wrong in WRONG_NUMBERS:
            self.refused_case(f"{wrong}x30:")
            self.refused_case(f"40x{wrong}:")
            self.refused_case(f"40x{wrong}: 12x7")

    def test_other_forms_of_a_ware(self):
        for wrong in (
            "", "x", "+", "12", "12x", "x7", "12x7x3", "12xx7", "12X7", "12*7", "12 x7", "12x 7", "12x7 +",
            "12x7++", "+12x7", "12+x7", "12x7-", "12x7:", "12x7,", "12x7\n", "12x7+\n", "12-7", "axb",
        ):
            self.refused_ware(wrong)

    def test_a_ware_by_itself_has_no_blanks(self):
        for wrong in (" 12x7", "12x7 ", " 12x7+", "12x7+ ", " ", "12x7 3x4"):
            with self.subTest(ware=wrong):
                self.assertRaises(NoText, read_ware, wrong)

    def test_blanks_in_a_case(self):
        for wrong in (
            " 40x30:", "40x30: ", "40x30:  ", "40x30 :", "40 x30:", "40x 30:", "40x30:12x7", "40x30:  12x7",
            "40x30: 12x7 ", "40x30: 12x7  3x4", "40x30:\t12x7", "40x30: 12x7\n", "40x30:\n", "40x30: 12x7\n3x4",
            "40x30: 12x73x4", "40x30: 12x7+3x4",
        ):
            self.refused_case(wrong)

    def test_colons_in_a_case(self):
        for wrong in (
            "40x30", "40x30 12x7", "40x30::", "40x30:: 12x7", "40x30: 12x7:", "40x30: 12x7: 3x4", ":", ":40x30",
            ": 12x7", "40x30: :", "40x30; 12x7",
        ):
            self.refused_case(wrong)

    def test_a_box_has_no_plus(self):
        for wrong in ("40x30+:", "40x30+: 12x7", "40x30:+", "40x30:+ 12x7", "+40x30:"):
            self.refused_case(wrong)

    def test_other_letters_and_signs(self):
        for wrong in ("", " ", "box", "40x30: ware", "40X30:", "40x30: 12X7", "40x30: 12x7, 3x4", "40x30x2:", "40:"):
            self.refused_case(wrong)


class Table(unittest.TestCase):
    def test_no_places(self):
        self.assertEqual(table([]), [])

    def test_all_flat(self):
        self.assertEqual(table([(0, 0, False)]), ["0 0 0 flat"])
        self.assertEqual(table([(0, 5, False), (7, 0, False)]), ["0 0 5 flat", "1 7 0 flat"])

    def test_all_turned(self):
        self.assertEqual(table([(0, 5, True), (7, 0, True)]), ["0 0 5 turned", "1 7 0 turned"])

    def test_mixed(self):
        self.assertEqual(
            table([(0, 5, True), (7, 0, False), (1, 1, True)]),
            ["0 0 5 turned", "1 7 0 flat  ", "2 1 1 turned"],
        )

    def test_columns_of_unlike_length(self):
        self.assertEqual(
            table([(100, 2, False), (3, 40, False), (0, 0, True)]),
            ["0 100  2 flat  ", "1   3 40 flat  ", "2   0  0 turned"],
        )

    def test_numbers_below_nought(self):
        self.assertEqual(
            table([(-1, 22, False), (3, -444, False), (-10, 0, True)]),
            ["0  -1   22 flat  ", "1   3 -444 flat  ", "2 -10    0 turned"],
        )

    def test_the_first_column_has_its_length_too(self):
        told = table([(k, 0, False) for k in range(11)])
        self.assertEqual(told[0], " 0  0 0 flat")
        self.assertEqual(told[9], " 9  9 0 flat")
        self.assertEqual(told[10], "10 10 0 flat")
        self.assertEqual(len(told), 11)

    def test_the_greatest_numbers(self):
        great = "1" + "0" * 42
        self.assertEqual(
            table([(MOST_BOX, -MOST_BOX, False), (0, 0, False)]),
            [f"0 {great} -{great} flat", "1 " + " " * 42 + "0 " + " " * 43 + "0 flat"],
        )

    def test_the_places_stay_and_the_told_list_is_the_askers_own(self):
        for places in ([], [(0, 5, True), (7, 0, False)]):
            handed = list(places)
            told = table(handed)
            kept = list(told)
            told.append("more")
            self.assertEqual(handed, places)
            self.assertEqual(table(handed), kept)


if __name__ == "__main__":
    unittest.main()
