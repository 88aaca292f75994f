import inspect
import unittest

from cratefit.errors import BadSide, BadTurn
from cratefit.wares import area_of, by_area, by_height, lies_of, made_box, made_ware, sides_of

NO_NUMBERS = (True, False, None, "3", "", [3], [], (3,), (), 3.0, {}, b"3")


class TheInterface(unittest.TestCase):
    def test_arguments_and_defaults(self):
        self.assertEqual(str(inspect.signature(made_ware)), "(w, h, turns=False)")
        self.assertEqual(str(inspect.signature(made_box)), "(w, h)")
        self.assertEqual(str(inspect.signature(sides_of)), "(ware, lie)")
        self.assertEqual(str(inspect.signature(lies_of)), "(ware)")
        self.assertEqual(str(inspect.signature(area_of)), "(wares)")
        self.assertEqual(str(inspect.signature(by_height)), "(wares)")
        self.assertEqual(str(inspect.signature(by_area)), "(wares)")


class MadeWare(unittest.TestCase):
    def test_a_ware_is_a_tuple_of_width_height_and_turns(self):
        for turns in (False, True):
            ware = made_ware(12, 7, turns)
            self.assertIs(type(ware), tuple)
            self.assertEqual(ware, (12, 7, turns))
            self.assertIs(ware[2], turns)

    def test_turns_left_out_is_false(self):
        self.assertIs(made_ware(3, 4)[2], False)

    def test_the_ends_of_the_range(self):
        self.assertEqual(made_ware(1, 10 ** 40), (1, 10 ** 40, False))
        self.assertEqual(made_ware(10 ** 40, 1, True), (10 ** 40, 1, True))

    def test_one_beyond_the_range(self):
        for wrong in (0, -1, 10 ** 40 + 1, -(10 ** 40)):
            with self.subTest(wrong=wrong):
                self.assertRaises(BadSide, made_ware, wrong, 1)
                self.assertRaises(BadSide, made_ware, 1, wrong, True)

    def test_what_is_no_whole_number(self):
        for wrong in NO_NUMBERS:
            with self.subTest(wrong=wrong):
                self.assertRaises(BadSide, made_ware, wrong, 1)
                self.assertRaises(BadSide, made_ware, 1, wrong)


class MadeBox(unittest.TestCase):
    def test_a_box_is_a_tuple_of_its_sides(self):
        box = made_box(40, 30)
        self.assertIs(type(box), tuple)
        self.assertEqual(box, (40, 30))

    def test_the_ends_of_the_range(self):
        self.assertEqual(made_box(0, 10 ** 42), (0, 10 ** 42))
        self.assertEqual(made_box(10 ** 42, 0), (10 ** 42, 0))

    def test_one_beyond_the_range(self):
        for wrong in (-1, 10 ** 42 + 1):
            with self.subTest(wrong=wrong):
                self.assertRaises(BadSide, made_box, wrong, 1)
                self.assertRaises(BadSide, made_box, 1, wrong)

    def test_what_is_no_whole_number(self):
        for wrong in NO_NUMBERS:
            with self.subTest(wrong=wrong):
                self.assertRaises(BadSide, made_box, wrong, 1)
                self.assertRaises(BadSide, made_box, 1, wrong)


class SidesAndLies(unittest.TestCase):
    def test_sides_flat(self):
        self.assertEqual(sides_of((12, 7, False), False), (12, 7))
        self.assertEqual(sides_of((12, 7, True), False), (12, 7))
        self.assertIs(type(sides_of((12, 7, True), False)), tuple)

    def test_sides_turned(self):
        self.assertEqual(sides_of((12, 7, True), True), (7, 12))
        self.assertEqual(sides_of((5, 5, True), True), (5, 5))
        self.assertIs(type(sides_of((12, 7, True), True)), tuple)

    def test_no_sides_turned_where_it_may_not_be_turned(self):
        self.assertRaises(BadTurn, sides_of, (12, 7, False), True)
        self.assertRaises(BadTurn, sides_of, (5, 5, False), True)

    def test_lies(self):
        self.assertEqual(lies_of((12, 7, True)), [False, True])
        self.assertEqual(lies_of((7, 12, True)), [False, True])
        self.assertEqual(lies_of((12, 7, False)), [False])
        self.assertEqual(lies_of((5, 5, True)), [False])
        self.assertEqual(lies_of((5, 5, False)), [False])

    def test_lies_are_truths(self):
        for lie in lies_of((12, 7, True)) + lies_of((12, 7, False)):
            self.assertIs(type(lie), bool)

    def test_lies_that_were_told_are_the_askers_own(self):
        for ware in ((12, 7, True), (12, 7, False)):
            told = lies_of(ware)
            kept = list(told)
            told.append(True)
            told[0] = True
            self.assertEqual(lies_of(ware), kept)


class Area(unittest.TestCase):
    def test_area(self):
        self.assertEqual(area_of([]), 0)
        self.assertEqual(area_of([(3, 4, True)]), 12)
        self.assertEqual(area_of([(3, 4, True), (5, 1, False), (3, 4, True)]), 29)
        self.assertEqual(area_of([(10 ** 40, 10 ** 40, False)] * 100), 10 ** 82)


class TheOrders(unittest.TestCase):
    def test_by_height_falls(self):
        self.assertEqual(by_height([(9, 1, False), (1, 3, False), (5, 2, False)]), [1, 2, 0])

    def test_by_height_goes_by_the_flat_height(self):
        self.assertEqual(by_height([(9, 1, True), (2, 3, True)]), [1, 0])

    def test_of_like_height_the_wider_comes_first(self):
        self.assertEqual(by_height([(1, 4, False), (3, 4, True), (2, 4, False)]), [1, 2, 0])

    def test_of_both_alike_the_lesser_number_comes_first(self):
        wares = [(2, 2, True), (3, 5, False), (2, 2, False), (3, 5, True), (2, 2, True)]
        self.assertEqual(by_height(wares), [1, 3, 0, 2, 4])

    def test_by_area_falls(self):
        self.assertEqual(by_area([(1, 9, False), (4, 4, False), (2, 6, False)]), [1, 2, 0])

    def test_of_like_area_the_lesser_number_comes_first(self):
        wares = [(2, 6, False), (5, 5, True), (12, 1, True), (3, 4, False), (1, 12, False)]
        self.assertEqual(by_area(wares), [1, 0, 2, 3, 4])

    def test_great_numbers_are_held_apart(self):
        wares = [(10 ** 40 - 1, 10 ** 40 - 1, False), (10 ** 40, 10 ** 40, False), (10 ** 40 - 1, 10 ** 40, True)]
        self.assertEqual(by_height(wares), [1, 2, 0])
        self.assertEqual(by_area(wares), [1, 2, 0])

    def test_a_hundred_wares(self):
        wares = [(k + 1, k + 1, False) for k in range(100)]
        self.assertEqual(by_height(wares), list(range(99, -1, -1)))
        self.assertEqual(by_area(wares), list(range(99, -1, -1)))

    def test_no_wares(self):
        self.assertEqual(by_height([]), [])
        self.assertEqual(by_area([]), [])


class WhatIsHandedInAndTold(unittest.TestCase):
    def test_the_list_that_was_handed_in_stays(self):
        wares = [(1, 2, True), (5, 3, False), (2, 9, True)]
        kept = list(wares)
        by_height(wares)
        by_area(wares)
        area_of(wares)
        self.assertEqual(wares, kept)

    def test_a_told_list_is_the_askers_own(self):
        for wares in ([], [(1, 2, True), (5, 3, False), (2, 9, True)]):
            for order in (by_height, by_area):
                told = order(wares)
                kept = list(told)
                self.assertIs(type(told), list)
                told.append(7)
                self.assertEqual(order(wares), kept)

    def test_a_told_list_stays_when_the_wares_change(self):
        wares = [(1, 2, True), (5, 3, False)]
        told = [by_height(wares), by_area(wares)]
        wares.append((9, 9, False))
        self.assertEqual(told, [[1, 0], [1, 0]])


if __name__ == "__main__":
    unittest.main()
