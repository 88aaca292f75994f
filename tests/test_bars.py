import inspect
import itertools
import unittest

from cratefit.bars import bar, bars, is_long, tried, weight_of, weighed_spots
from cratefit.errors import NoWeighing, TooMany
from cratefit.places import apart
from cratefit.weighings import Heavy, Matched, Parts, Weighing, made_weighing
from walks import Numbers, has_packing, packings, small_wares

SIDE = 10 ** 40
GREAT = 10 ** 42


def fits(box, w, h):
    return w <= box[0] and h <= box[1]


def plain_weight(box, ware, across, up):
    w, h, turns = ware
    lies = [(w, h)] + ([(h, w)] if turns and w != h else [])
    return min((across.weigh(a) * up.weigh(b) for a, b in lies if fits(box, a, b)), default=None)


def plain_bar(box, wares):
    for k, (w, h, turns) in enumerate(wares):
        if not fits(box, w, h) and not (turns and fits(box, h, w)):
            return ("long", k)
    for r, t in itertools.product(tried(box[0], wares), tried(box[1], wares)):
        if wares:
            across, up = made_weighing(box[0], r), made_weighing(box[1], t)
            if sum(plain_weight(box, ware, across, up) for ware in wares) > across.whole() * up.whole():
                return ("weights", r, t)
    return None


class TheInterface(unittest.TestCase):
    def test_arguments(self):
        self.assertEqual(str(inspect.signature(is_long)), "(box, ware)")
        self.assertEqual(str(inspect.signature(weight_of)), "(box, ware, across, up)")
        self.assertEqual(str(inspect.signature(tried)), "(side, wares)")
        self.assertEqual(str(inspect.signature(bar)), "(box, wares)")
        self.assertEqual(str(inspect.signature(bars)), "(box, wares, paper)")
        self.assertEqual(str(inspect.signature(weighed_spots)), "(box, wares, places, row, other)")


class IsLong(unittest.TestCase):
    def test_flat(self):
        self.assertIs(is_long((4, 3), (4, 3, False)), False)
        self.assertIs(is_long((4, 3), (5, 3, False)), True)
        self.assertIs(is_long((4, 3), (4, 4, False)), True)

    def test_turned(self):
        self.assertIs(is_long((4, 3), (3, 4, False)), True)
        self.assertIs(is_long((4, 3), (3, 4, True)), False)
        self.assertIs(is_long((4, 3), (4, 3, True)), False)
        self.assertIs(is_long((4, 3), (5, 1, True)), True)
        self.assertIs(is_long((4, 3), (4, 4, True)), True)

    def test_a_side_of_nought(self):
        for box in ((0, 9), (9, 0), (0, 0)):
            for turns in (False, True):
                self.assertIs(is_long(box, (1, 1, turns)), True)
                self.assertIs(is_long(box, (1, 2, turns)), True)

    def test_great(self):
        self.assertIs(is_long((SIDE, 1), (1, SIDE, True)), False)
        self.assertIs(is_long((SIDE - 1, 1), (1, SIDE, True)), True)
        self.assertIs(is_long((GREAT, GREAT), (SIDE, SIDE, False)), False)


class WeightOf(unittest.TestCase):
    def test_flat_alone(self):
        self.assertEqual(weight_of((9, 7), (4, 3, False), Weighing(9), Weighing(7)), 12)
        self.assertEqual(weight_of((9, 7), (5, 3, False), Parts(9, 1), Weighing(7)), 27)

    def test_the_least_among_both_lies(self):
        box = (9, 7)
        across, up = Parts(9, 1), Weighing(7)
        self.assertEqual(weight_of(box, (5, 3, False), across, up), 27)
        self.assertEqual(weight_of(box, (3, 5, False), across, up), 0)
        self.assertEqual(weight_of(box, (5, 3, True), across, up), 0)
        self.assertEqual(weight_of(box, (3, 5, True), across, up), 0)

    def test_lies_that_do_not_fit_are_passed_by(self):
        across, up = Parts(9, 1), Weighing(4)
        self.assertEqual(weight_of((9, 4), (5, 3, True), across, up), 27)
        self.assertEqual(weight_of((9, 4), (3, 5, True), across, up), 27)

    def test_a_long_ware(self):
        self.assertIsNone(weight_of((9, 4), (10, 1, False), Weighing(9), Weighing(4)))
        self.assertIsNone(weight_of((9, 4), (5, 5, True), Weighing(9), Weighing(4)))

    def test_a_square(self):
        self.assertEqual(weight_of((9, 7), (5, 5, True), Heavy(9, 2), Matched(7, 2)), 20)

    def test_great(self):
        self.assertEqual(
            weight_of((GREAT, GREAT), (SIDE, SIDE, True), Weighing(GREAT), Parts(GREAT, 60)),
            SIDE * 0,
        )
        self.assertEqual(weight_of((GREAT, GREAT), (SIDE, SIDE, True), Weighing(GREAT), Weighing(GREAT)), SIDE * SIDE)


class Tried(unittest.TestCase):
    first = [("plain",), ("parts", 1), ("parts", 2)]

    def test_without_wares(self):
        self.assertEqual(tried(9, []), self.first)

    def test_in_rising_order_each_once(self):
        self.assertEqual(
            tried(9, [(4, 2, False), (2, 3, True)]),
            self.first + [
                ("heavy", 2), ("matched", 2), ("heavy", 3), ("matched", 3), ("heavy", 4), ("matched", 4),
            ],
        )

    def test_twice_the_number_at_most_the_side(self):
        self.assertEqual(tried(9, [(5, 4, False)]), self.first + [("heavy", 4), ("matched", 4)])
        self.assertEqual(tried(10, [(5, 6, False)]), self.first + [("heavy", 5), ("matched", 5)])
        self.assertEqual(tried(1, [(1, 1, False)]), self.first)
        self.assertEqual(tried(2, [(1, 1, False)]), self.first + [("heavy", 1), ("matched", 1)])

    def test_great(self):
        self.assertEqual(tried(GREAT, [(SIDE, SIDE, True)])[3:], [("heavy", SIDE), ("matched", SIDE)])


class Bar(unittest.TestCase):
    def test_no_wares(self):
        for box in ((0, 0), (0, 5), (5, 5)):
            self.assertIsNone(bar(box, []))

    def test_long_with_the_least_number(self):
        self.assertEqual(bar((4, 3), [(1, 1, False), (5, 1, True), (9, 9, False)]), ("long", 1))
        self.assertEqual(bar((0, 3), [(1, 1, False)]), ("long", 0))

    def test_long_comes_ahead_of_weights(self):
        self.assertEqual(bar((2, 2), [(2, 2, False), (2, 2, False), (3, 1, False)]), ("long", 2))

    def test_by_area(self):
        self.assertEqual(bar((2, 2), [(2, 2, False), (1, 1, False)]), ("weights", ("plain",), ("plain",)))

    def test_just_the_area_is_open(self):
        self.assertIsNone(bar((2, 2), [(2, 1, False), (1, 1, False), (1, 1, False)]))

    def test_two_that_stand_in_each_others_way(self):
        self.assertEqual(bar((9, 9), [(5, 5, False), (5, 5, False)]), ("weights", ("plain",), ("parts", 1)))

    def test_the_second_row_goes_faster(self):
        self.assertEqual(bar((4, 9), [(4, 5, False), (4, 5, False)]), ("weights", ("plain",), ("plain",)))
        self.assertEqual(bar((5, 9), [(4, 5, False), (4, 5, False)]), ("weights", ("plain",), ("parts", 1)))
        self.assertEqual(bar((9, 8), [(5, 3, False)] * 3), ("weights", ("parts", 1), ("plain",)))

    def test_a_packing_is_not_barred_though_it_weighs_just_the_whole(self):
        self.assertIsNone(bar((3, 3), [(1, 2, False), (2, 1, False), (1, 2, False), (2, 1, False), (1, 1, False)]))

    def test_six_and_seven_wares(self):
        self.assertIsNone(bar((6, 1), [(1, 1, False)] * 6))
        self.assertEqual(bar((5, 1), [(1, 1, False)] * 6), ("weights", ("plain",), ("plain",)))
        self.assertRaises(TooMany, bar, (7, 7), [(1, 1, False)] * 7)
        self.assertRaises(TooMany, bar, (0, 0), [(1, 1, False)] * 7)
        self.assertRaises(TooMany, bar, (1, 1), [(9, 9, False)] * 7)

    def test_held_against_a_plain_walk(self):
        drawn = Numbers(19)
        seen = {"long": 0, "weights": 0, None: 0}
        for turn in range(400):
            wares = drawn.wares(drawn.upto(1, 6), 7)
            box = (drawn.upto(4, 15), drawn.upto(4, 15))
            told = bar(box, wares)
            seen[told and told[0]] += 1
            self.assertEqual(told, plain_bar(box, wares))
            if told is not None:
                self.assertTrue(bars(box, wares, told))
        self.assertGreater(min(seen.values()), 20)

    def test_a_row_beyond_the_first_three_bars(self):
        words = set()
        drawn = Numbers(23)
        for turn in range(600):
            wares = drawn.wares(drawn.upto(2, 5), 9)
            told = bar((drawn.upto(5, 14), drawn.upto(5, 14)), wares)
            if told is not None and told[0] == "weights":
                words.update((told[1][0], told[2][0]))
        self.assertIn("heavy", words)
        self.assertIn("plain", words)
        self.assertIn("parts", words)

    def test_what_has_a_packing_is_not_barred(self):
        for box in ((2, 3), (3, 3), (4, 2)):
            for wares in itertools.chain(small_wares(2, 3), small_wares(3, 2)):
                if has_packing(box, wares):
                    self.assertIsNone(bar(box, wares))

    def test_great(self):
        self.assertIsNone(bar((GREAT, GREAT), [(SIDE, SIDE, True)] * 6))
        self.assertEqual(
            bar((SIDE, 2 * SIDE), [(SIDE, SIDE, True)] * 3), ("weights", ("plain",), ("plain",)),
        )
        self.assertEqual(
            bar((2 * SIDE - 1, 2 * SIDE - 1), [(SIDE, SIDE, True)] * 2), ("weights", ("plain",), ("parts", 1)),
        )


class Bars(unittest.TestCase):
    def test_long(self):
        wares = [(1, 1, False), (5, 1, True), (9, 9, False)]
        self.assertIs(bars((4, 3), wares, ("long", 0)), False)
        self.assertIs(bars((4, 3), wares, ("long", 1)), True)
        self.assertIs(bars((4, 3), wares, ("long", 2)), True)

    def test_numbers_that_no_ware_has(self):
        wares = [(9, 9, False)] * 3
        for k in (-1, -3, 3, 10 ** 50, -(10 ** 50)):
            self.assertIs(bars((4, 3), wares, ("long", k)), False)
        self.assertIs(bars((4, 3), [], ("long", 0)), False)

    def test_weights(self):
        wares = [(5, 5, False), (5, 5, False)]
        self.assertIs(bars((9, 9), wares, ("weights", ("parts", 1), ("parts", 1))), True)
        self.assertIs(bars((9, 9), wares, ("weights", ("plain",), ("plain",))), False)
        self.assertIs(bars((9, 9), wares, ("weights", ("floors", 5), ("floors", 5))), True)
        self.assertIs(bars((9, 9), wares, ("weights", ("nested", ("floors", 5), ("plain",)), ("parts", 1))), True)

    def test_just_the_whole_does_not_bar(self):
        wares = [(2, 2, False), (2, 2, False)]
        self.assertIs(bars((4, 2), wares, ("weights", ("plain",), ("plain",))), False)
        self.assertIs(bars((4, 2), wares + [(1, 1, False)], ("weights", ("plain",), ("plain",))), True)

    def test_weights_where_a_ware_is_long(self):
        wares = [(5, 5, False), (5, 5, False), (10, 1, False)]
        self.assertIs(bars((9, 9), wares, ("weights", ("parts", 1), ("parts", 1))), False)
        self.assertIs(bars((9, 9), wares, ("long", 2)), True)

    def test_rows_that_are_refused(self):
        wares = [(5, 5, False), (5, 5, False)]
        for wrong in (("floors", 0), ("floors", 10), ("parts", 61), ("heavy", -1), ("what",), ("matched", True)):
            self.assertIs(bars((9, 9), wares, ("weights", wrong, ("parts", 1))), False)
            self.assertIs(bars((9, 9), wares, ("weights", ("parts", 1), wrong)), False)
            nested = ("nested", wrong, ("plain",))
            self.assertIs(bars((9, 9), wares, ("weights", nested, ("parts", 1))), False)

    def test_no_wares_and_sides_of_nought(self):
        for box in ((0, 0), (0, 9), (9, 0), (9, 9)):
            self.assertIs(bars(box, [], ("weights", ("plain",), ("plain",))), False)
            self.assertIs(bars(box, [], ("long", 0)), False)
        self.assertIs(bars((0, 9), [(1, 1, False)], ("weights", ("plain",), ("plain",))), False)
        self.assertIs(bars((0, 9), [(1, 1, False)], ("long", 0)), True)

    def test_any_number_of_wares(self):
        wares = [(1, 1, False)] * 100
        self.assertIs(bars((10, 10), wares, ("weights", ("plain",), ("plain",))), False)
        self.assertIs(bars((11, 9), wares, ("weights", ("plain",), ("plain",))), True)
        self.assertIs(bars((11, 9), wares + [(12, 1, True)], ("long", 100)), True)

    def test_what_has_a_packing_is_barred_by_no_weighing(self):
        for box in ((3, 2), (4, 3)):
            rows = [
                [("plain",), ("parts", 1), ("parts", 2), ("parts", 3)]
                + [(word, s) for word in ("floors", "heavy", "matched") for s in range(1, side + 1)]
                for side in box
            ]
            for wares in itertools.chain(small_wares(2, 2), small_wares(3, 2)):
                if not has_packing(box, wares):
                    continue
                for r, t in itertools.product(*rows):
                    self.assertIs(bars(box, wares, ("weights", r, t)), False)


class WeighedSpots(unittest.TestCase):
    def test_plain_is_pushed(self):
        wares = [(4, 3, False), (2, 5, True)]
        self.assertEqual(
            weighed_spots((10, 6), wares, [(1, 1, False), (5, 4, True)], ("plain",), ("plain",)),
            [(0, 0, 4, 3), (4, 3, 9, 5)],
        )

    def test_row_across_and_other_up(self):
        wares = [(4, 3, False), (2, 5, True)]
        places = [(0, 0, False), (4, 3, True)]
        self.assertEqual(
            weighed_spots((9, 6), wares, places, ("parts", 1), ("floors", 2)),
            [(0, 0, 0, 1), (0, 1, 9, 2)],
        )
        self.assertEqual(
            weighed_spots((9, 6), wares, places, ("floors", 2), ("parts", 1)),
            [(0, 0, 2, 3), (2, 3, 4, 3)],
        )

    def test_no_wares(self):
        self.assertEqual(weighed_spots((5, 5), [], [], ("plain",), ("plain",)), [])

    def test_wrong_rows(self):
        wares, places = [(1, 1, False)], [(0, 0, False)]
        for wrong in (("floors", 0), ("floors", 6), ("parts", 61), ("what", 1), ("nested", ("plain",), ("heavy", 6))):
            self.assertRaises(NoWeighing, weighed_spots, (5, 5), wares, places, wrong, ("plain",))
            self.assertRaises(NoWeighing, weighed_spots, (5, 5), wares, places, ("plain",), wrong)
        self.assertRaises(NoWeighing, weighed_spots, (0, 5), [], [], ("plain",), ("plain",))
        self.assertRaises(NoWeighing, weighed_spots, (5, 0), [], [], ("plain",), ("plain",))

    def test_they_lie_in_the_box_of_both_wholes_apart(self):
        box, wares = (4, 3), [(2, 1, True), (1, 2, False), (2, 2, False)]
        rows = [("plain",), ("floors", 2), ("heavy", 2), ("parts", 2), ("matched", 1)]
        for r, t in itertools.product(rows, repeat=2):
            wholes = made_weighing(4, r).whole(), made_weighing(3, t).whole()
            for places in packings(box, wares):
                spots = weighed_spots(box, wares, list(places), r, t)
                for x, y, x2, y2 in spots:
                    self.assertTrue(0 <= x <= x2 <= wholes[0] and 0 <= y <= y2 <= wholes[1])
                for one, other in itertools.combinations(spots, 2):
                    self.assertTrue(apart(one, other))

    def test_great(self):
        wares = [(SIDE, SIDE, False)] * 2
        self.assertEqual(
            weighed_spots((GREAT, GREAT), wares, [(GREAT - SIDE, 0, False), (0, 0, False)], ("plain",), ("matched", 1)),
            [(SIDE, 0, 2 * SIDE, 2 * SIDE), (0, 0, SIDE, 2 * SIDE)],
        )


class WhatIsHandedInAndTold(unittest.TestCase):
    def test_what_is_handed_in_stays(self):
        wares, places = [(5, 2, True), (3, 3, False)], [(0, 0, False), (0, 2, False)]
        tried(9, wares)
        bar((9, 9), wares)
        bars((9, 9), wares, ("weights", ("plain",), ("plain",)))
        weighed_spots((9, 9), wares, places, ("plain",), ("plain",))
        self.assertEqual(wares, [(5, 2, True), (3, 3, False)])
        self.assertEqual(places, [(0, 0, False), (0, 2, False)])

    def test_told_lists_are_the_askers_own(self):
        asked = (
            lambda: tried(9, []), lambda: tried(9, [(1, 2, False)]),
            lambda: weighed_spots((9, 9), [(1, 2, False)], [(0, 0, False)], ("plain",), ("plain",)),
            lambda: weighed_spots((9, 9), [], [], ("plain",), ("plain",)),
        )
        for ask in asked:
            told = ask()
            kept = list(told)
            told.append("more")
            self.assertEqual(ask(), kept)


if __name__ == "__main__":
    unittest.main()
