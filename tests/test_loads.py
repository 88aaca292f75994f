import inspect
import itertools
import unittest
from fractions import Fraction

from cratefit.errors import Hangs
from cratefit.loads import fallen, hanging, over, overloaded, pressed, set_order, touching
from walks import Numbers, overlap, packings, sides

SIDE = 10 ** 6
MOST_WEIGHT = 10 ** 40


def spots_of(wares, places):
    told = []
    for ware, (x, y, lie) in zip(wares, places):
        w, h = sides(ware, lie)
        told.append((x, y, x + w, y + h))
    return told


def plain_touches(spots, k):
    """The touches, column by column."""
    told = {}
    for j, spot in enumerate(spots):
        columns = sum(spot[0] <= x < spot[2] for x in range(spots[k][0], spots[k][2]))
        if j != k and spot[3] == spots[k][1] and columns > 0:
            told[j] = columns
    return sorted(told.items())


def plain_pressed(spots, weights, j):
    total = Fraction(0)
    for k in range(len(spots)):
        touch = dict(plain_touches(spots, k)).get(j, 0)
        if touch > 0:
            total += (plain_pressed(spots, weights, k) + weights[k]) * touch / (spots[k][2] - spots[k][0])
    return total


def drawn_places(drawn, wares, width):
    """Wares one by one at drawn places that don't overlap, perhaps hanging."""
    places, spots = [], []
    for ware in wares:
        highest = 12
        while True:
            lie = ware[2] and drawn.truth()
            w, h = sides(ware, lie)
            x, y = drawn.upto(-3, width), drawn.upto(0, highest)
            spot = (x, y, x + w, y + h)
            if not any(overlap(spot, other) for other in spots):
                break
            # Where the room below is used up, the next one is looked for further up.
            highest += 1
        places.append((x, y, lie))
        spots.append(spot)
    return places


class TheInterface(unittest.TestCase):
    def test_arguments(self):
        self.assertEqual(str(inspect.signature(touching)), "(wares, places, k)")
        self.assertEqual(str(inspect.signature(hanging)), "(wares, places)")
        self.assertEqual(str(inspect.signature(fallen)), "(wares, places)")
        self.assertEqual(str(inspect.signature(set_order)), "(wares, places)")
        self.assertEqual(str(inspect.signature(over)), "(wares, places, k)")
        self.assertEqual(str(inspect.signature(pressed)), "(wares, places, weights)")
        self.assertEqual(str(inspect.signature(overloaded)), "(wares, places, weights, bears)")


class Touching(unittest.TestCase):
    wares = [(3, 2, False), (2, 3, True), (6, 1, False), (1, 1, False)]
    places = [(0, 0, False), (3, 0, True), (0, 2, False), (6, 0, False)]

    def test_the_wares_on_which_one_stands(self):
        self.assertEqual(touching(self.wares, self.places, 2), [(0, 3), (1, 3)])
        for k in (0, 1, 3):
            self.assertEqual(touching(self.wares, self.places, k), [])

    def test_a_corner_is_no_touch(self):
        places = [(0, 0, False), (9, 0, False), (3, 2, False), (0, 9, False)]
        self.assertEqual(touching(self.wares, places, 2), [])

    def test_a_touch_of_one(self):
        places = [(0, 0, False), (9, 0, False), (2, 2, False), (0, 9, False)]
        self.assertEqual(touching(self.wares, places, 2), [(0, 1)])

    def test_above_but_not_on(self):
        places = [(0, 0, False), (3, 0, True), (0, 3, False), (6, 0, False)]
        self.assertEqual(touching(self.wares, places, 2), [])

    def test_numbers_rise(self):
        wares = [(3, 1, False), (1, 1, False), (1, 1, False), (1, 1, False)]
        places = [(0, 1, False), (2, 0, False), (0, 0, False), (1, 0, False)]
        self.assertEqual(touching(wares, places, 0), [(1, 1), (2, 1), (3, 1)])

    def test_left_of_nought_and_great(self):
        wares = [(SIDE, SIDE, False), (SIDE, 1, False)]
        self.assertEqual(touching(wares, [(-SIDE, 0, False), (-1, SIDE, False)], 1), [(0, 1)])

    def test_held_against_columns(self):
        drawn = Numbers(36)
        for turn in range(100):
            wares = drawn.wares(drawn.upto(1, 8), 5)
            places = fallen(wares, drawn_places(drawn, wares, 12))
            spots = spots_of(wares, places)
            for k in range(len(wares)):
                self.assertEqual(touching(wares, places, k), plain_touches(spots, k))


class Hanging(unittest.TestCase):
    def test_none(self):
        self.assertIsNone(hanging([], []))
        self.assertIsNone(hanging([(3, 2, False)], [(5, 0, False)]))
        self.assertIsNone(hanging(Touching.wares, Touching.places))

    def test_in_the_air(self):
        self.assertEqual(hanging([(3, 2, False)], [(5, 1, False)]), 0)

    def test_one_short_of_its_width(self):
        wares = [(3, 2, False), (4, 1, False)]
        self.assertEqual(hanging(wares, [(0, 0, False), (0, 2, False)]), 1)
        self.assertIsNone(hanging([(4, 2, False), (4, 1, False)], [(0, 0, False), (0, 2, False)]))

    def test_the_width_in_its_lie(self):
        wares = [(3, 2, False), (4, 3, True)]
        self.assertIsNone(hanging(wares, [(0, 0, False), (0, 2, True)]))
        self.assertEqual(hanging(wares, [(0, 0, False), (0, 2, False)]), 1)

    def test_the_least_number(self):
        wares = [(3, 2, False)] * 4
        self.assertEqual(hanging(wares, [(0, 0, False), (0, 9, False), (0, 4, False), (0, 6, False)]), 1)
        self.assertEqual(hanging(wares, [(0, 5, False), (0, 9, False), (0, 0, False), (9, 0, False)]), 0)

    def test_over_a_gap(self):
        wares = [(1, 1, False), (1, 1, False), (3, 1, False)]
        self.assertEqual(hanging(wares, [(0, 0, False), (2, 0, False), (0, 1, False)]), 2)


class SetOrder(unittest.TestCase):
    def test_by_y_then_by_number(self):
        wares = [(1, 1, False)] * 4
        self.assertEqual(set_order(wares, [(0, 5, False), (9, 0, False), (0, 0, False), (0, 2, False)]), [1, 2, 3, 0])
        self.assertEqual(set_order([], []), [])

    def test_the_lower_of_two_that_share_a_width_comes_first(self):
        wares = [(2, 1, True), (1, 1, False), (1, 2, False)]
        for places in packings((3, 3), wares):
            spots = spots_of(wares, places)
            order = set_order(wares, list(places))
            self.assertEqual(sorted(order), [0, 1, 2])
            for i, j in itertools.permutations(range(3), 2):
                if spots[i][0] < spots[j][2] and spots[j][0] < spots[i][2] and spots[i][3] <= spots[j][1]:
                    self.assertLess(order.index(i), order.index(j))


class Fallen(unittest.TestCase):
    def test_to_the_floor(self):
        self.assertEqual(fallen([(3, 2, True)], [(-5, 7, True)]), [(-5, 0, True)])
        self.assertEqual(fallen([], []), [])

    def test_onto_one_another(self):
        wares = [(2, 3, False), (4, 1, False), (1, 1, False)]
        self.assertEqual(
            fallen(wares, [(0, 9, False), (1, 4, False), (4, 20, False)]),
            [(0, 1, False), (1, 0, False), (4, 1, False)],
        )

    def test_beside_one_another(self):
        wares = [(2, 3, False), (4, 1, False)]
        self.assertEqual(fallen(wares, [(0, 9, False), (2, 4, False)]), [(0, 0, False), (2, 0, False)])

    def test_the_greatest_of_those_below(self):
        wares = [(2, 3, False), (2, 5, False), (4, 1, False)]
        self.assertEqual(
            fallen(wares, [(0, 0, False), (2, 0, False), (0, 9, False)]),
            [(0, 0, False), (2, 0, False), (0, 5, False)],
        )

    def test_none_overlaps_none_rises_and_twice_is_as_once(self):
        drawn = Numbers(37)
        for turn in range(150):
            wares = drawn.wares(drawn.upto(1, 8), 5)
            places = drawn_places(drawn, wares, 9)
            told = fallen(wares, places)
            for place, was in zip(told, places):
                self.assertEqual((place[0], place[2]), (was[0], was[2]))
                self.assertTrue(0 <= place[1] <= was[1])
            for one, other in itertools.combinations(spots_of(wares, told), 2):
                self.assertFalse(overlap(one, other))
            for k, spot in enumerate(spots_of(wares, told)):
                self.assertTrue(spot[1] == 0 or plain_touches(spots_of(wares, told), k))
            self.assertEqual(fallen(wares, told), told)

    def test_sixty_wares(self):
        wares = [(SIDE, SIDE, False)] * 60
        places = [(k, 2 * SIDE * k + 5, False) for k in range(60)]
        self.assertEqual(fallen(wares, places), [(k, SIDE * k, False) for k in range(60)])


class Over(unittest.TestCase):
    def test_what_stands_on_it_and_on_these(self):
        wares = [(4, 1, False), (2, 1, False), (2, 1, False), (1, 1, False), (3, 1, False)]
        places = [(0, 0, False), (0, 1, False), (2, 1, False), (0, 2, False), (1, 3, False)]
        self.assertEqual(over(wares, places, 0), [1, 2, 3])
        self.assertEqual(over(wares, places, 1), [3])
        self.assertEqual(over(wares, places, 2), [])
        self.assertEqual(over(wares, places, 4), [])
        places[4] = (1, 2, False)
        self.assertEqual(over(wares, places, 0), [1, 2, 3, 4])
        self.assertEqual(over(wares, places, 2), [4])

    def test_numbers_rise_whatever_the_heights(self):
        wares = [(1, 1, False)] * 4
        places = [(0, 3, False), (0, 2, False), (0, 1, False), (0, 0, False)]
        self.assertEqual(over(wares, places, 3), [0, 1, 2])
        self.assertEqual(over(wares, places, 1), [0])
        self.assertEqual(over(wares, places, 0), [])

    def test_hanging_wares_may_be_asked(self):
        wares = [(4, 1, False), (4, 1, False), (1, 1, False)]
        self.assertEqual(over(wares, [(0, 5, False), (3, 6, False), (9, 0, False)], 0), [1])

    def test_held_against_walks(self):
        drawn = Numbers(39)
        for turn in range(80):
            wares = drawn.wares(drawn.upto(1, 9), 5)
            places = fallen(wares, drawn_places(drawn, wares, 6))
            spots = spots_of(wares, places)
            on = {k: [i for i in range(len(wares)) if k in dict(plain_touches(spots, i))] for k in range(len(wares))}
            for k in on:
                reached = list(on[k])
                for i in reached:
                    reached.extend(on[i])
                self.assertEqual(over(wares, places, k), sorted(set(reached)))


class Pressed(unittest.TestCase):
    def test_none(self):
        self.assertEqual(pressed([], [], []), ([], (0, 1)))

    def test_on_the_floor_alone(self):
        told = pressed([(3, 2, False), (1, 1, False)], [(0, 0, False), (5, 0, False)], [7, 8])
        self.assertEqual(told, ([(0, 1), (0, 1)], (15, 1)))
        self.assertIs(type(told), tuple)
        self.assertIs(type(told[0]), list)

    def test_shared_by_touch(self):
        wares = [(1, 1, False), (2, 1, False), (3, 1, False)]
        places = [(0, 0, False), (1, 0, False), (0, 1, False)]
        self.assertEqual(pressed(wares, places, [5, 5, 7]), ([(7, 3), (14, 3), (0, 1)], (17, 1)))
        self.assertEqual(pressed(wares, places, [0, 0, 9]), ([(3, 1), (6, 1), (0, 1)], (9, 1)))
        self.assertEqual(pressed(wares, places, [1, 1, 0]), ([(0, 1), (0, 1), (0, 1)], (2, 1)))

    def test_handed_down(self):
        wares = [(2, 1, False), (2, 1, False), (2, 1, True), (4, 1, False)]
        places = [(0, 0, False), (2, 0, False), (1, 2, True), (0, 1, False)]
        self.assertEqual(
            pressed(wares, places, [1, 1, 3, 2]), ([(5, 2), (5, 2), (0, 1), (3, 1)], (7, 1)),
        )

    def test_the_width_in_its_lie(self):
        wares = [(1, 1, False), (1, 1, False), (5, 2, True)]
        places = [(0, 0, False), (1, 0, False), (0, 1, True)]
        self.assertEqual(pressed(wares, places, [0, 0, 5])[0], [(5, 2), (5, 2), (0, 1)])

    def test_hangs(self):
        wares = [(3, 2, False)] * 3
        with self.assertRaises(Hangs) as caught:
            pressed(wares, [(0, 0, False), (0, 9, False), (0, 5, False)], [1, 1, 1])
        self.assertEqual(caught.exception.at, 1)
        with self.assertRaises(Hangs) as caught:
            pressed(wares, [(0, 1, False), (9, 0, False), (0, 5, False)], [0, 0, 0])
        self.assertEqual(caught.exception.at, 0)

    def piled(self, drawn):
        """Wares that stand firm: rows on rows, each ware wholly over the row below."""
        wares, places = [], []
        for row in range(drawn.upto(1, 4)):
            x = 0
            while x < 12:
                w = min(drawn.upto(1, 5), 12 - x)
                turned = drawn.truth()
                wares.append((2, w, True) if turned else (w, 2, False))
                places.append((x, 2 * row, turned))
                x += w
        order = sorted(range(len(wares)), key=lambda k: drawn.upto(0, 1000))
        return [wares[k] for k in order], [places[k] for k in order]

    def test_held_against_fractions(self):
        drawn = Numbers(38)
        for turn in range(60):
            wares, places = self.piled(drawn)
            weights = [drawn.upto(0, 30) for ware in wares]
            told, floor = pressed(wares, places, weights)
            spots = spots_of(wares, places)
            for k in range(len(wares)):
                expected = plain_pressed(spots, weights, k)
                self.assertEqual(told[k], (expected.numerator, expected.denominator))
            self.assertEqual(floor, (sum(weights), 1))

    def test_great(self):
        wares = [(SIDE, SIDE, False), (SIDE - 1, 1, False), (2 * SIDE - 1, 1, False)]
        places = [(0, 0, False), (SIDE, SIDE - 1, False), (0, SIDE, False)]
        with self.assertRaises(Hangs):
            pressed(wares, places, [MOST_WEIGHT] * 3)
        wares[1] = (SIDE - 1, SIDE, False)
        places[1] = (SIDE, 0, False)
        told, floor = pressed(wares, places, [MOST_WEIGHT] * 3)
        share = Fraction(MOST_WEIGHT * SIDE, 2 * SIDE - 1)
        self.assertEqual(told[0], (share.numerator, share.denominator))
        self.assertEqual(floor, (3 * MOST_WEIGHT, 1))

    def test_sixty_wares(self):
        # A wall of twenty rows of three, each row shifted: fractions grow long and still sum up.
        wares, places = [], []
        for row in range(20):
            cuts = (0, 299 - row, 653 + row, 1000)
            for left, right in zip(cuts, cuts[1:]):
                wares.append((right - left, 1, False))
                places.append((left, row, False))
        told, floor = pressed(wares, places, list(range(60)))
        self.assertEqual(floor, (sum(range(60)), 1))
        self.assertEqual(sum(Fraction(*one) for one in told[:3]), sum(range(3, 60)))


class Overloaded(unittest.TestCase):
    wares = [(1, 1, False), (2, 1, False), (3, 1, False)]
    places = [(0, 0, False), (1, 0, False), (0, 1, False)]

    def told(self, weights, bears, expected):
        self.assertEqual(overloaded(self.wares, self.places, weights, bears), expected)

    def test_at_the_very_bound(self):
        self.told([0, 0, 9], [3, 6, 0], None)
        self.told([0, 0, 9], [2, 6, 0], 0)
        self.told([0, 0, 9], [3, 5, 0], 1)
        self.told([0, 0, 10], [3, 6, 0], 0)
        self.told([0, 0, 10], [4, 6, 0], 1)
        self.told([0, 0, 10], [4, 7, 0], None)

    def test_its_own_weight_does_not_count(self):
        self.told([99, 99, 0], [0, 0, 0], None)
        self.assertIsNone(overloaded([], [], [], []))

    def test_the_least_number(self):
        self.told([0, 0, 9], [0, 0, 0], 0)

    def test_great(self):
        self.told([0, 0, MOST_WEIGHT], [MOST_WEIGHT // 3, 10 ** 42, 0], 0)
        self.told([0, 0, MOST_WEIGHT], [MOST_WEIGHT // 3 + 1, 10 ** 42, 0], None)

    def test_hangs_comes_ahead(self):
        with self.assertRaises(Hangs) as caught:
            overloaded(self.wares, [(0, 0, False), (1, 0, False), (0, 2, False)], [9, 9, 9], [0, 0, 0])
        self.assertEqual(caught.exception.at, 2)


class WhatIsHandedInAndTold(unittest.TestCase):
    def test_what_is_handed_in_stays(self):
        wares, places = list(Overloaded.wares), list(Overloaded.places)
        weights, bears = [1, 2, 3], [4, 5, 6]
        touching(wares, places, 2)
        hanging(wares, places)
        fallen(wares, places)
        fallen(wares, [(0, 5, False), (1, 5, False), (0, 9, False)])
        set_order(wares, places)
        over(wares, places, 0)
        pressed(wares, places, weights)
        overloaded(wares, places, weights, bears)
        self.assertEqual((wares, places), (Overloaded.wares, Overloaded.places))
        self.assertEqual((weights, bears), ([1, 2, 3], [4, 5, 6]))

    def test_told_lists_are_the_askers_own(self):
        wares, places = list(Overloaded.wares), list(Overloaded.places)
        asked = (
            lambda: touching(wares, places, 2), lambda: touching(wares, places, 0),
            lambda: fallen(wares, places), lambda: fallen([], []),
            lambda: set_order(wares, places), lambda: set_order([], []),
            lambda: over(wares, places, 0), lambda: over(wares, places, 2),
            lambda: pressed(wares, places, [1, 2, 3])[0], lambda: pressed([], [], [])[0],
        )
        for ask in asked:
            told = ask()
            kept = list(told)
            self.assertIs(type(told), list)
            told.append("more")
            self.assertEqual(ask(), kept)
        self.assertEqual((wares, places), (Overloaded.wares, Overloaded.places))


if __name__ == "__main__":
    unittest.main()
