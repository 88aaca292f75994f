import inspect
import unittest

from cratefit.errors import BadPacking, BadTurn
from cratefit.papers import bars_all, leaves, led
from walks import across, up

SIDE = 10 ** 40
GREAT = 10 ** 42


def both(i, j):
    """The pair that bars two wares which go neither beside nor on one another."""
    return ("pair", i, j, across(i, j), across(j, i), up(i, j), up(j, i))


def nested(depth):
    paper = both(0, 1)
    for k in range(depth - 1):
        paper = ("pair", 0, 1, paper, across(1, 0), up(0, 1), up(1, 0))
    return paper


class TheInterface(unittest.TestCase):
    def test_arguments(self):
        self.assertEqual(str(inspect.signature(bars_all)), "(box, wares, paper)")
        self.assertEqual(str(inspect.signature(leaves)), "(paper)")
        self.assertEqual(str(inspect.signature(led)), "(wares, places, paper)")


class Leaves(unittest.TestCase):
    def test_counted(self):
        self.assertEqual(leaves(across(0)), 1)
        self.assertEqual(leaves(up()), 1)
        self.assertEqual(leaves(both(0, 1)), 4)
        self.assertEqual(leaves(("turn", 0, across(0), up(0))), 2)
        self.assertEqual(leaves(("turn", 0, both(0, 1), up(0))), 5)
        self.assertEqual(leaves(("pair", 0, 1, both(0, 1), ("turn", 7, up(), up()), up(), both(3, 4))), 11)

    def test_forty_within_one_another(self):
        self.assertEqual(leaves(nested(40)), 40 * 3 + 1)


class ALeaf(unittest.TestCase):
    wares = [(5, 4, False), (6, 3, True), (4, 4, True)]

    def told(self, box, paper, truth, wares=None):
        with self.subTest(box=box, paper=paper):
            self.assertIs(bars_all(box, self.wares if wares is None else wares, paper), truth)

    def test_one_ware_longer_than_the_side(self):
        self.told((4, 9), across(0), True)
        self.told((5, 9), across(0), False)
        self.told((9, 3), up(0), True)
        self.told((9, 4), up(0), False)

    def test_the_word_tells_the_side(self):
        self.told((4, 9), up(0), False)
        self.told((9, 3), across(0), False)

    def test_a_square_has_one_lie(self):
        self.told((3, 9), across(2), True)
        self.told((9, 3), up(2), True)

    def test_no_numbers(self):
        self.told((0, 0), across(), False)
        self.told((0, 0), up(), False)

    def test_numbers_that_no_ware_has(self):
        for k in (-1, -3, 3, 10 ** 50):
            self.told((0, 0), across(k), False)
            self.told((0, 0), up(k), False)

    def test_a_lie_that_was_not_chosen(self):
        self.told((2, 2), across(1), False)
        self.told((2, 2), ("turn", 1, across(1), across(1)), True)

    def test_the_chosen_lie_counts(self):
        self.told((2, 9), ("turn", 1, across(1), across(1)), True)
        self.told((3, 9), ("turn", 1, across(1), across(1)), False)
        self.told((9, 2), ("turn", 1, up(1), up(1)), True)
        self.told((9, 3), ("turn", 1, up(1), up(1)), False)
        self.told((5, 5), ("turn", 1, across(1), up(1)), True)
        self.told((6, 5), ("turn", 1, across(1), up(1)), False)
        self.told((5, 6), ("turn", 1, across(1), up(1)), False)
        self.told((5, 5), ("turn", 1, up(1), across(1)), False)

    def test_relations_that_were_not_chosen(self):
        wares = [(5, 5, False)] * 3
        self.told((9, 9), both(0, 1), True, wares)
        self.told((10, 9), both(0, 1), False, wares)
        self.told((9, 10), both(0, 1), False, wares)
        self.told((9, 9), across(0, 1), False, wares)
        for at, wrong in (
            (3, across(1, 0)), (3, up(0, 1)), (3, across(0, 2)), (4, across(0, 1)), (4, up(1, 0)),
            (5, up(1, 0)), (5, across(0, 1)), (6, up(0, 1)), (6, across(1, 0)), (3, across(0)), (3, across(0, 0)),
        ):
            paper = list(both(0, 1))
            paper[at] = wrong
            self.told((9, 9), tuple(paper), False, wares)

    def test_relations_are_those_on_the_way_alone(self):
        wares = [(5, 5, False)] * 3
        paper = ("pair", 0, 1, across(0, 1), both(0, 2), up(0, 1), up(1, 0))
        self.told((9, 9), paper, True, wares)
        paper = ("pair", 0, 1, across(0, 1), across(0, 1), up(0, 1), up(1, 0))
        self.told((9, 9), paper, False, wares)

    def test_a_lie_chosen_beside_the_way_does_not_count(self):
        wares = [(6, 6, False), (5, 3, True)]
        right = ("turn", 1, both(0, 1), both(0, 1))
        self.told((8, 8), right, True, wares)
        wrong = ("pair", 0, 1, ("turn", 1, across(0, 1), across(0, 1)), across(1, 0), up(0, 1), up(1, 0))
        self.told((8, 8), wrong, False, wares)

    def test_a_chain_of_three(self):
        wares = [(3, 5, False)] * 3
        inner = ("pair", 1, 2, across(0, 1, 2), across(0, 2, 1), up(1, 2), up(2, 1))
        outer = ("pair", 0, 2, inner, across(2, 0, 1), up(0, 2), up(2, 0))
        rest = both(0, 2)
        paper = ("pair", 0, 1, outer, rest, up(0, 1), up(1, 0))
        self.told((8, 9), paper, False, wares)
        again = ("pair", 1, 2, across(1, 2, 0), across(2, 1, 0), up(1, 2), up(2, 1))
        closed = ("pair", 0, 2, across(1, 0, 2), again, up(0, 2), up(2, 0))
        self.told((8, 9), ("pair", 0, 1, outer, closed, up(0, 1), up(1, 0)), True, wares)
        self.told((9, 9), ("pair", 0, 1, outer, closed, up(0, 1), up(1, 0)), False, wares)

    def test_a_ware_that_stands_more_than_once(self):
        wares = [(2, 9, False), (3, 9, False)]
        again = ("pair", 0, 1, across(1, 0, 1), across(1, 0, 1), up(0, 1), up(1, 0))
        paper = ("pair", 0, 1, ("pair", 0, 1, across(0, 1), across(0, 1, 0, 1), up(0, 1), up(1, 0)), again,
                 up(0, 1), up(1, 0))
        self.told((4, 17), paper, False, wares)
        once = ("pair", 0, 1, across(0, 1), ("pair", 0, 1, across(0, 1, 0), across(1, 0), up(0, 1), up(1, 0)),
                up(0, 1), up(1, 0))
        self.told((4, 17), once, True, wares)
        ring = ("pair", 0, 1, across(0, 1), ("pair", 0, 1, across(0, 1, 0, 1), across(1, 0), up(0, 1), up(1, 0)),
                up(0, 1), up(1, 0))
        self.told((4, 17), ring, True, wares)
        self.told((5, 17), ring, False, wares)

    def test_each_as_often_as_it_stands_there(self):
        wares = [(2, 9, False), (3, 9, False)]
        paper = ("pair", 1, 0, ("pair", 0, 1, across(0, 1, 0), across(1, 0), up(0, 1), up(1, 0)), across(0, 1),
                 up(1, 0), up(0, 1))
        self.told((4, 17), paper, True, wares)
        paper = ("pair", 1, 0, ("pair", 0, 1, across(0, 1, 0, 1, 0), ("pair", 0, 1, across(1, 0, 1), across(1, 0),
                 up(0, 1), up(1, 0)), up(0, 1), up(1, 0)), across(0, 1), up(1, 0), up(0, 1))
        self.told((4, 17), paper, True, wares)

    def test_great(self):
        wares = [(SIDE, SIDE, False)] * 2
        self.told((2 * SIDE - 1, 2 * SIDE - 1), both(0, 1), True, wares)
        self.told((2 * SIDE, 2 * SIDE - 1), both(0, 1), False, wares)


class ATurn(unittest.TestCase):
    def test_a_ware_with_one_lie(self):
        self.assertIs(bars_all((2, 2), [(3, 3, True)], ("turn", 0, across(0), across(0))), False)
        self.assertIs(bars_all((2, 2), [(3, 3, True)], across(0)), True)
        self.assertIs(bars_all((2, 2), [(3, 4, False)], ("turn", 0, across(0), across(0))), False)
        self.assertIs(bars_all((2, 2), [(3, 4, True)], ("turn", 0, across(0), across(0))), True)

    def test_numbers_that_no_ware_has(self):
        for k in (-1, 1, 10 ** 50):
            self.assertIs(bars_all((2, 2), [(3, 4, False)], ("turn", k, across(0), across(0))), False)
        self.assertIs(bars_all((2, 2), [(3, 4, True)], ("turn", -1, across(0), across(0))), False)

    def test_chosen_twice(self):
        wares = [(3, 4, True), (5, 6, True)]
        inner = ("turn", 0, across(0), across(0))
        self.assertIs(bars_all((2, 2), wares, ("turn", 1, inner, inner)), True)
        self.assertIs(bars_all((2, 2), wares, ("turn", 0, inner, across(0))), False)
        self.assertIs(bars_all((2, 2), wares, ("turn", 0, across(0), inner)), False)
        self.assertIs(bars_all((2, 2), wares, ("turn", 0, ("turn", 1, inner, inner), across(0))), False)

    def test_both_parts_are_asked(self):
        self.assertIs(bars_all((2, 9), [(3, 1, True)], ("turn", 0, across(0), across(0))), False)
        self.assertIs(bars_all((2, 9), [(1, 3, True)], ("turn", 0, across(0), across(0))), False)


class APair(unittest.TestCase):
    def test_one_number_twice(self):
        wares = [(5, 5, False), (5, 5, False)]
        self.assertIs(bars_all((4, 4), wares, ("pair", 0, 0, across(0), across(0), up(0), up(0))), False)
        self.assertIs(bars_all((9, 9), wares, both(0, 0)), False)
        self.assertIs(bars_all((4, 4), wares, ("pair", 0, 1, across(0), across(0), up(0), up(0))), True)

    def test_numbers_that_no_ware_has(self):
        wares = [(5, 5, False), (5, 5, False)]
        leaf = across(0)
        for k in (-1, -2, 2, 10 ** 50):
            self.assertIs(bars_all((4, 4), wares, ("pair", k, 1, leaf, leaf, leaf, leaf)), False)
            self.assertIs(bars_all((4, 4), wares, ("pair", 0, k, leaf, leaf, leaf, leaf)), False)

    def test_all_four_parts_are_asked(self):
        wares = [(5, 5, False), (5, 5, False)]
        for at in (3, 4, 5, 6):
            paper = list(both(0, 1))
            paper[at] = across()
            self.assertIs(bars_all((9, 9), wares, tuple(paper)), False)

    def test_it_may_stand_again_further_down(self):
        wares = [(5, 5, False), (5, 5, False)]
        self.assertIs(bars_all((9, 9), wares, nested(2)), True)
        self.assertIs(bars_all((9, 9), wares, nested(40)), True)
        self.assertIs(bars_all((10, 9), wares, nested(40)), False)
        turned = ("pair", 1, 0, both(0, 1), across(0, 1), up(1, 0), up(0, 1))
        self.assertIs(bars_all((9, 9), wares, turned), True)

    def test_a_wrong_part_far_down(self):
        paper = ("pair", 0, 1, across(0, 1), across(1, 0), up(0, 1), across(1, 0))
        for k in range(39):
            paper = ("pair", 0, 1, paper, across(1, 0), up(0, 1), up(1, 0))
        wares = [(5, 5, False), (5, 5, False)]
        self.assertIs(bars_all((9, 9), wares, paper), False)


class Led(unittest.TestCase):
    wares = [(5, 4, True), (3, 3, True), (2, 1, False)]
    four = ("pair", 0, 2, across(0), across(2), up(0), up(2))

    def test_a_leaf(self):
        self.assertEqual(led([], [], across(7)), across(7))

    def test_a_turn(self):
        paper = ("turn", 0, across(0), up(0))
        self.assertEqual(led(self.wares, [(0, 0, False)] * 3, paper), across(0))
        self.assertEqual(led(self.wares, [(0, 0, True), (0, 0, False), (0, 0, False)], paper), up(0))

    def test_a_squares_lie_at_a_turn(self):
        paper = ("turn", 1, across(0), up(0))
        self.assertEqual(led(self.wares, [(0, 0, False)] * 3, paper), across(0))
        self.assertEqual(led(self.wares, [(0, 0, False), (0, 0, True), (0, 0, False)], paper), up(0))

    def pair(self, one, other, expected):
        places = [one, (0, 0, False), other]
        self.assertEqual(led(self.wares, places, self.four), expected)

    def test_each_of_the_four(self):
        self.pair((0, 0, False), (5, 0, False), across(0))
        self.pair((2, 0, False), (0, 0, False), across(2))
        self.pair((0, 0, False), (0, 4, False), up(0))
        self.pair((0, 1, False), (0, 0, False), up(2))

    def test_the_lie_counts_at_a_pair(self):
        self.pair((0, 0, True), (4, 0, False), across(0))
        self.pair((0, 0, True), (0, 5, False), up(0))
        self.pair((0, 0, False), (4, 4, False), up(0))

    def test_the_first_of_the_four(self):
        self.pair((0, 0, False), (9, 9, False), across(0))
        self.pair((0, 9, False), (9, 0, False), across(0))
        self.pair((9, 0, False), (0, 9, False), across(2))
        self.pair((9, 9, False), (0, 0, False), across(2))

    def test_none_of_the_four(self):
        places = [(0, 0, False), (9, 9, False), (4, 3, False)]
        with self.assertRaises(BadPacking) as caught:
            led(self.wares, places, self.four)
        self.assertEqual(caught.exception.why, ("over", 0, 2))
        turned = ("pair", 2, 0) + self.four[3:]
        with self.assertRaises(BadPacking) as caught:
            led(self.wares, places, turned)
        self.assertEqual(caught.exception.why, ("over", 2, 0))

    def test_what_is_beside_the_way_is_not_asked(self):
        places = [(0, 0, False), (9, 9, False), (0, 0, False)]
        self.assertEqual(led(self.wares, places, ("turn", 0, up(1), self.four)), up(1))

    def test_turned_that_may_not_be_comes_first(self):
        places = [(0, 0, False), (9, 9, False), (4, 3, True)]
        self.assertRaises(BadTurn, led, self.wares, places, self.four)
        self.assertRaises(BadTurn, led, self.wares, places, across(0))

    def test_deeper(self):
        paper = ("turn", 0, ("pair", 1, 2, self.four, up(1), up(1), up(1)), across(9))
        self.assertEqual(led(self.wares, [(0, 0, False), (6, 0, False), (9, 9, False)], paper), across(0))
        self.assertEqual(led(self.wares, [(0, 0, False), (9, 0, False), (6, 0, False)], paper), up(1))

    def test_forty_within_one_another(self):
        wares = [(5, 5, False)] * 2
        self.assertEqual(led(wares, [(0, 0, False), (5, 0, False)], nested(40)), across(0, 1))
        self.assertEqual(led(wares, [(0, 0, False), (0, 5, False)], nested(40)), up(0, 1))

    def test_great(self):
        wares = [(SIDE, SIDE, False)] * 2
        self.assertEqual(led(wares, [(-GREAT, GREAT, False), (GREAT, -GREAT, False)], both(0, 1)), across(0, 1))


class WhatIsHandedIn(unittest.TestCase):
    def test_it_stays(self):
        wares = [(5, 5, False), (5, 4, True)]
        places = [(0, 0, False), (5, 0, True)]
        paper = ("turn", 1, both(0, 1), both(0, 1))
        bars_all((8, 8), wares, paper)
        leaves(paper)
        led(wares, places, paper)
        self.assertEqual(paper, ("turn", 1, both(0, 1), both(0, 1)))
        self.assertEqual(wares, [(5, 5, False), (5, 4, True)])
        self.assertEqual(places, [(0, 0, False), (5, 0, True)])


if __name__ == "__main__":
    unittest.main()
