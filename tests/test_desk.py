import inspect
import unittest

from cratefit.bars import bar
from cratefit.desk import Desk
from cratefit.errors import CrateError, Full, NoDeed, NoText, NothingDone, NoWare, TooMany, TooWide
from cratefit.papers import leaves
from cratefit.search import fit
from cratefit.shelves import shelved
from cratefit.strips import lowest
from cratefit.texts import read_case, table

TWENTY = "10x10:" + " 1x1" * 20


class TheInterface(unittest.TestCase):
    def test_arguments(self):
        self.assertEqual(str(inspect.signature(Desk)), "(start='10x10:')")
        self.assertEqual(str(inspect.signature(Desk.do)), "(self, line)")
        self.assertEqual(str(inspect.signature(Desk.case)), "(self)")
        self.assertEqual(str(inspect.signature(Desk.steps)), "(self)")


class Start(unittest.TestCase):
    def test_none_told(self):
        desk = Desk()
        self.assertEqual(desk.case(), "10x10:")
        self.assertEqual(desk.steps(), 0)

    def test_told(self):
        for start in ("0x0:", "40x30: 12x7 3x4+", "1x2: 3x4", "5x5:" + " 1x1" * 150):
            desk = Desk(start)
            self.assertEqual(desk.case(), start)
            self.assertEqual(desk.steps(), 0)

    def test_what_writes_no_case(self):
        for wrong in ("", "10x10", "10x10: ", " 10x10:", "10x10:1x1", "10x10: 0x1", "010x10:", "fit", "box 10x10"):
            self.assertRaises(NoText, Desk, wrong)


class Deeds(unittest.TestCase):
    def test_box(self):
        desk = Desk("4x3: 1x1")
        self.assertEqual(desk.do("box 7x0"), ["7x0: 1x1"])
        self.assertEqual(desk.case(), "7x0: 1x1")
        self.assertEqual(desk.steps(), 1)

    def test_the_same_box_is_a_deed_too(self):
        desk = Desk("4x3: 1x1")
        self.assertEqual(desk.do("box 4x3"), ["4x3: 1x1"])
        self.assertEqual(desk.steps(), 1)
        self.assertEqual(desk.do("undo"), ["4x3: 1x1"])
        self.assertEqual(desk.steps(), 0)

    def test_put_at_the_end(self):
        desk = Desk("4x3: 1x1")
        self.assertEqual(desk.do("put 2x5+"), ["4x3: 1x1 2x5+"])
        self.assertEqual(desk.do("put 9x9"), ["4x3: 1x1 2x5+ 9x9"])
        self.assertEqual(desk.steps(), 2)

    def test_drop_moves_the_others_up(self):
        desk = Desk("4x3: 1x1 2x2 3x3 4x4+")
        self.assertEqual(desk.do("drop 1"), ["4x3: 1x1 3x3 4x4+"])
        self.assertEqual(desk.do("drop 1"), ["4x3: 1x1 4x4+"])
        self.assertEqual(desk.do("drop 0"), ["4x3: 4x4+"])
        self.assertEqual(desk.do("drop 0"), ["4x3:"])
        self.assertEqual(desk.steps(), 4)

    def test_undo_one_after_another(self):
        desk = Desk("4x3: 1x1 2x2")
        cases = [desk.case()]
        for line in ("box 9x9", "put 3x3", "drop 0", "drop 1", "box 0x0", "put 5x1+"):
            cases += desk.do(line)
        for left in range(6, 0, -1):
            self.assertEqual(desk.steps(), left)
            self.assertEqual(desk.case(), cases[left])
            self.assertEqual(desk.do("undo"), [cases[left - 1]])
        self.assertEqual(desk.case(), "4x3: 1x1 2x2")
        self.assertRaises(NothingDone, desk.do, "undo")

    def test_an_undo_is_not_undone(self):
        desk = Desk("4x3:")
        desk.do("put 1x1")
        desk.do("put 2x2")
        desk.do("undo")
        self.assertEqual(desk.do("undo"), ["4x3:"])
        self.assertRaises(NothingDone, desk.do, "undo")

    def test_a_deed_behind_an_undo(self):
        desk = Desk("4x3:")
        desk.do("put 1x1")
        desk.do("undo")
        desk.do("put 2x2")
        self.assertEqual(desk.steps(), 1)
        self.assertEqual(desk.do("undo"), ["4x3:"])

    def test_the_greatest_numbers(self):
        desk = Desk()
        great, most = "1" + "0" * 42, "1" + "0" * 40
        self.assertEqual(desk.do(f"box {great}x0"), [f"{great}x0:"])
        self.assertEqual(desk.do(f"put {most}x1+"), [f"{great}x0: {most}x1+"])

    def test_two_desks_are_two(self):
        one, other = Desk(), Desk()
        one.do("put 1x1")
        self.assertEqual(other.case(), "10x10:")
        self.assertEqual(other.steps(), 0)


class Questions(unittest.TestCase):
    def test_fit_placed(self):
        self.assertEqual(Desk("4x3: 2x1 3x2+").do("fit"), ["placed", "0 0 2 flat", "1 0 0 flat"])
        self.assertEqual(Desk("3x4: 4x3+").do("fit"), ["placed", "0 0 0 turned"])
        self.assertEqual(Desk("0x0:").do("fit"), ["placed"])

    def test_fit_barred(self):
        self.assertEqual(Desk("3x3: 2x2 2x2").do("fit"), ["barred 4"])
        self.assertEqual(Desk("3x3: 4x3+").do("fit"), ["barred 2"])
        self.assertEqual(Desk("4x2: 2x1 3x2+").do("fit"), ["barred 5"])
        self.assertEqual(Desk("0x3: 1x1").do("fit"), ["barred 1"])

    def test_low(self):
        self.assertEqual(Desk("5x0: 3x5+").do("low"), ["low 3", "0 0 0 turned"])
        self.assertEqual(Desk("4x9: 2x2 2x2 2x2").do("low"), ["low 4", "0 0 0 flat", "1 2 0 flat", "2 2 2 flat"])
        self.assertEqual(Desk("0x0:").do("low"), ["low 0"])

    def test_shelf(self):
        start = "10x0: 6x9 7x8 8x7 2x3 2x2"
        first = ["0 0  0 flat", "1 0  9 flat", "2 0 17 flat"]
        self.assertEqual(Desk(start).do("shelf next"), ["shelf 26"] + first + ["3 8 17 flat", "4 0 24 flat"])
        self.assertEqual(Desk(start).do("shelf first"), ["shelf 24"] + first + ["3 6  0 flat", "4 8  0 flat"])
        self.assertEqual(Desk(start).do("shelf best"), ["shelf 24"] + first + ["3 8 17 flat", "4 7  9 flat"])
        self.assertEqual(Desk("0x0:").do("shelf next"), ["shelf 0"])

    def test_bar(self):
        self.assertEqual(Desk("4x3: 4x3").do("bar"), ["open"])
        self.assertEqual(Desk("0x0:").do("bar"), ["open"])
        self.assertEqual(Desk("4x3: 1x1 5x1+").do("bar"), ["long 1"])
        self.assertEqual(Desk("2x2: 2x2 1x1").do("bar"), ["weights plain / plain"])
        self.assertEqual(Desk("9x9: 5x5 5x5").do("bar"), ["weights plain / parts 1"])
        self.assertEqual(Desk("9x8: 5x3 5x3 5x3").do("bar"), ["weights parts 1 / plain"])

    def test_answers_are_those_of_the_functions(self):
        for start in ("9x7: 4x3+ 5x5 2x2 3x7+", "6x6: 4x3+ 5x2+ 3x3 2x2 1x5+", "8x5: 3x3 3x3 3x3 3x3"):
            box, wares = read_case(start)
            desk = Desk(start)
            told = fit(box, wares)
            expected = ["placed"] + table(told[1]) if told[0] == "places" else [f"barred {leaves(told[1])}"]
            self.assertEqual(desk.do("fit"), expected)
            height, places, paper = lowest(box[0], wares)
            self.assertEqual(desk.do("low"), [f"low {height}"] + table(places))
            for word in ("next", "first", "best"):
                height, places = shelved(box[0], wares, word)
                self.assertEqual(desk.do(f"shelf {word}"), [f"shelf {height}"] + table(places))
            paper = bar(box, wares)
            if paper is None:
                self.assertEqual(desk.do("bar"), ["open"])
            else:
                self.assertEqual(desk.do("bar")[0].split(" ")[0], paper[0])

    def test_they_change_nothing(self):
        desk = Desk("9x9: 5x5 2x2+")
        desk.do("put 1x1")
        for line in ("fit", "bar", "low", "shelf next", "shelf first", "shelf best"):
            self.assertEqual(desk.do(line), desk.do(line))
            self.assertEqual(desk.case(), "9x9: 5x5 2x2+ 1x1")
            self.assertEqual(desk.steps(), 1)

    def test_a_question_goes_by_the_case_behind_the_deeds(self):
        desk = Desk("3x3: 2x2")
        self.assertEqual(desk.do("fit"), ["placed", "0 0 0 flat"])
        desk.do("put 2x2")
        self.assertEqual(desk.do("fit"), ["barred 4"])
        desk.do("box 4x2")
        self.assertEqual(desk.do("fit"), ["placed", "0 0 0 flat", "1 2 0 flat"])
        desk.do("undo")
        self.assertEqual(desk.do("fit"), ["barred 4"])


class Refused(unittest.TestCase):
    def refused(self, start, line, error):
        desk = Desk(start)
        desk.do("box 5x5")
        case = desk.case()
        with self.subTest(line=line):
            with self.assertRaises(CrateError) as caught:
                desk.do(line)
            self.assertIs(type(caught.exception), error)
            self.assertEqual(desk.case(), case)
            self.assertEqual(desk.steps(), 1)
            self.assertEqual(desk.do("undo"), [start])
        return caught.exception

    def test_no_such_row(self):
        for line in (
            "", " ", "fits", "Fit", "FIT", "fit ", " fit", "fit 1", "bar ", " bar", "bar 2", "low ", "low 3", "lows",
            "undo ", " undo", "undo 1", "undo undo", "box", "put", "drop", "shelf", "box ", "put ", "drop ", "shelf ",
            "open", "case", "steps", "what", "undofit", "fit\n", "fit\t",
        ):
            self.refused("9x9: 1x1", line, NoDeed)

    def test_blanks(self):
        for line in (
            "box  4x4", "box 4x4 ", " box 4x4", "box 4 x4", "box 4x 4", "put  1x1", "put 1x1 ", " put 1x1",
            "put 1x1 1x1", "put 1x1 +", "drop  0", "drop 0 ", " drop 0", "drop 0 0", "shelf  next", "shelf next ",
            " shelf next", "shelf next first", "box 4x4 4x4",
        ):
            self.refused("9x9: 1x1", line, NoDeed)

    def test_numbers(self):
        for line in (
            "box 04x4", "box 4x04", "box 4", "box x4", "box 4x", "box -1x4", "box 4x4+", "box 4x4:", "box 4X4",
            "box +4x4", "put 01x1", "put 1x01", "put 0x1", "put 1x0", "put 1", "put 1x1++", "put 1x-1", "put 1x1x1",
            "put 1.0x1", "drop 00", "drop 01", "drop -1", "drop +0", "drop a", "drop 0x0", "drop 1000000",
            "drop 0000000", "drop 9999999", "drop 1_0", "box 1" + "0" * 42 + "x1" + "0" * 43,
            "box " + str(10 ** 42 + 1) + "x1", "put " + str(10 ** 40 + 1) + "x1", "put 1x" + "9" * 5000,
            "drop " + "9" * 5000,
        ):
            self.refused("9x9: 1x1", line, NoDeed)

    def test_words_amiss(self):
        for line in (
            "shelf last", "shelf Next", "shelf 1", "boxes 4x4", "Box 4x4", "puts 1x1", "PUT 1x1", "dropp 0",
            "fit next", "low next", "shelfnext", "next", "shelf nextfirst",
        ):
            self.refused("9x9: 1x1", line, NoDeed)

    def test_full(self):
        self.refused(TWENTY, "put 1x1", Full)
        self.refused("10x10:" + " 1x1" * 25, "put 1x1", Full)
        desk = Desk("10x10:" + " 1x1" * 19)
        self.assertEqual(desk.do("put 1x1"), [TWENTY])
        self.assertRaises(Full, desk.do, "put 1x1")
        desk.do("drop 3")
        self.assertEqual(desk.do("put 1x1"), [TWENTY])

    def test_a_row_amiss_comes_ahead_of_full(self):
        self.refused(TWENTY, "put 0x1", NoDeed)
        self.refused(TWENTY, "put 1x1 ", NoDeed)

    def test_no_ware(self):
        self.refused("9x9: 1x1", "drop 1", NoWare)
        self.refused("9x9: 1x1", "drop 999999", NoWare)
        self.refused("9x9:", "drop 0", NoWare)

    def test_nothing_done(self):
        for start in ("10x10:", "9x9: 1x1"):
            desk = Desk(start)
            self.assertRaises(NothingDone, desk.do, "undo")
            self.assertEqual(desk.case(), start)
            self.assertEqual(desk.steps(), 0)

    def test_too_many(self):
        six, seven = "9x9:" + " 1x1" * 6, "9x9:" + " 1x1" * 7
        self.refused(six, "fit", TooMany)
        self.refused(six, "low", TooMany)
        self.refused(seven, "bar", TooMany)
        self.assertEqual(Desk(six).do("bar"), ["open"])
        self.assertEqual(Desk(seven).do("shelf next")[0], "shelf 1")

    def test_too_wide(self):
        self.assertEqual(self.refused("9x9: 1x1 6x7+ 8x8", "low", TooWide).at, 1)
        self.assertEqual(self.refused("9x9: 1x1 5x5 6x1+", "shelf best", TooWide).at, 2)
        self.assertEqual(Desk("5x5: 6x1+").do("low"), ["low 6", "0 0 0 turned"])


class WhatIsTold(unittest.TestCase):
    def test_told_lists_are_the_askers_own(self):
        desk = Desk("9x9: 5x5")
        for line in ("box 9x9", "put 1x1", "fit", "bar", "low", "shelf next", "drop 1", "undo"):
            told = desk.do(line)
            self.assertIs(type(told), list)
            case = desk.case()
            told.append("more")
            told[0] = "else"
            self.assertEqual(desk.case(), case)
        for line in ("fit", "bar", "low", "shelf next"):
            told = desk.do(line)
            kept = list(told)
            told.append("more")
            self.assertEqual(desk.do(line), kept)

    def test_what_was_told_stays(self):
        desk = Desk("9x9: 5x5")
        told = desk.do("put 1x1")
        placed = desk.do("fit")
        desk.do("drop 0")
        self.assertEqual(told, ["9x9: 5x5 1x1"])
        self.assertEqual(placed, ["placed", "0 0 0 flat", "1 5 0 flat"])


if __name__ == "__main__":
    unittest.main()
