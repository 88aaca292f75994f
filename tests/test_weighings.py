import inspect
import itertools
import unittest

from cratefit.errors import BadSide, NoWeighing
from cratefit.weighings import Floors, Heavy, Matched, Nested, Parts, Weighing, made_weighing

MOST_SIDE = 10 ** 60

STEPPED = (("floors", Floors), ("heavy", Heavy), ("parts", Parts), ("matched", Matched))


def weights(side, row):
    weighing = made_weighing(side, row)
    return [weighing.weigh(x) for x in range(side + 1)]


def rows_for(side):
    rows = [("plain",)]
    for s in range(1, side + 1):
        rows += [("floors", s), ("heavy", s), ("matched", s)]
    return rows + [("parts", s) for s in (1, 2, 3, 4, 7, 59, 60)]


def most_together(weighing):
    """The greatest weight of numbers, each from 1 on, that together are at most the side."""
    most = [0]
    for total in range(1, weighing.side + 1):
        most.append(max(most[total - x] + weighing.weigh(x) for x in range(1, total + 1)))
    return max(most)


class TheInterface(unittest.TestCase):
    def test_arguments(self):
        self.assertEqual(str(inspect.signature(Weighing)), "(side)")
        for word, kind in STEPPED:
            self.assertEqual(str(inspect.signature(kind)), "(side, step)")
        self.assertEqual(str(inspect.signature(Nested)), "(inner, outer)")
        self.assertEqual(str(inspect.signature(made_weighing)), "(side, row)")
        self.assertEqual(str(inspect.signature(Weighing.weigh)), "(self, x)")
        self.assertEqual(str(inspect.signature(Weighing.whole)), "(self)")
        self.assertEqual(str(inspect.signature(Weighing.named)), "(self)")

    def test_each_stands_straight_beneath_weighing(self):
        self.assertEqual(Weighing.__bases__, (object,))
        for kind in (Floors, Heavy, Parts, Matched, Nested):
            self.assertEqual(kind.__bases__, (Weighing,))

    def test_made_by_hand(self):
        self.assertEqual(Weighing(9).side, 9)
        self.assertEqual(Weighing(9).weigh(4), 4)
        for word, kind in STEPPED:
            weighing = kind(9, 3)
            self.assertEqual(weighing.side, 9)
            self.assertEqual(weighing.named(), (word, 3))
            self.assertEqual([weighing.weigh(x) for x in range(10)], weights(9, (word, 3)))
        nested = Nested(Floors(9, 2), Parts(4, 3))
        self.assertEqual(nested.side, 9)
        self.assertEqual(nested.named(), ("nested", ("floors", 2), ("parts", 3)))
        self.assertEqual([nested.weigh(x) for x in range(10)], weights(9, nested.named()))

    def test_the_class_of_the_first_word(self):
        self.assertIs(type(made_weighing(9, ("plain",))), Weighing)
        for word, kind in STEPPED:
            self.assertIs(type(made_weighing(9, (word, 3))), kind)
        self.assertIs(type(made_weighing(9, ("nested", ("plain",), ("plain",)))), Nested)


class TheRows(unittest.TestCase):
    def test_plain(self):
        self.assertEqual(weights(5, ("plain",)), [0, 1, 2, 3, 4, 5])
        self.assertEqual(weights(1, ("plain",)), [0, 1])

    def test_floors(self):
        self.assertEqual(weights(7, ("floors", 1)), [0, 1, 2, 3, 4, 5, 6, 7])
        self.assertEqual(weights(7, ("floors", 3)), [0, 0, 0, 1, 1, 1, 2, 2])
        self.assertEqual(weights(7, ("floors", 7)), [0, 0, 0, 0, 0, 0, 0, 1])
        self.assertEqual(weights(1, ("floors", 1)), [0, 1])

    def test_heavy(self):
        self.assertEqual(weights(7, ("heavy", 1)), [0, 1, 2, 3, 4, 5, 6, 7])
        self.assertEqual(weights(7, ("heavy", 2)), [0, 0, 2, 3, 4, 5, 7, 7])
        self.assertEqual(weights(8, ("heavy", 4)), [0, 0, 0, 0, 4, 8, 8, 8, 8])
        self.assertEqual(weights(8, ("heavy", 5)), [0, 0, 0, 0, 0, 8, 8, 8, 8])
        self.assertEqual(weights(7, ("heavy", 7)), [0, 0, 0, 0, 0, 0, 0, 7])

    def test_parts(self):
        self.assertEqual(weights(6, ("parts", 1)), [0, 0, 0, 3, 6, 6, 6])
        self.assertEqual(weights(7, ("parts", 1)), [0, 0, 0, 0, 7, 7, 7, 7])
        self.assertEqual(weights(6, ("parts", 2)), [0, 0, 4, 6, 8, 12, 12])
        self.assertEqual(weights(5, ("parts", 4)), [0, 4, 8, 12, 16, 20])
        self.assertEqual(weights(2, ("parts", 60)), [0, 60, 120])
        self.assertEqual(weights(4, ("parts", 60)), [0, 60, 120, 180, 240])
        self.assertEqual(weights(61, ("parts", 60)), [60 * x for x in range(62)])

    def test_matched(self):
        self.assertEqual(weights(6, ("matched", 1)), [0, 2, 4, 6, 8, 10, 12])
        self.assertEqual(weights(8, ("matched", 3)), [0, 0, 0, 2, 2, 2, 4, 4, 4])
        self.assertEqual(weights(7, ("matched", 2)), [0, 0, 2, 2, 4, 4, 6, 6])
        self.assertEqual(weights(7, ("matched", 7)), [0, 0, 0, 0, 2, 2, 2, 2])
        self.assertEqual(weights(10, ("matched", 4)), [0, 0, 0, 0, 2, 2, 2, 4, 4, 4, 4])

    def test_at_the_half_and_one_beside_it(self):
        half = MOST_SIDE // 2
        matched = made_weighing(MOST_SIDE, ("matched", 3))
        q = MOST_SIDE // 3
        self.assertEqual(matched.weigh(half), q)
        self.assertEqual(matched.weigh(half - 1), 2 * ((half - 1) // 3))
        self.assertEqual(matched.weigh(half + 1), 2 * (q - (half - 1) // 3))
        parts = made_weighing(MOST_SIDE, ("parts", 1))
        self.assertEqual([parts.weigh(half + d) for d in (-1, 0, 1)], [0, half, MOST_SIDE])
        heavy = made_weighing(MOST_SIDE, ("heavy", half))
        self.assertEqual([heavy.weigh(half + d) for d in (-1, 0, 1)], [0, half, MOST_SIDE])

    def test_at_nought_and_at_the_side(self):
        wholes = {"plain": 12, "floors": 2, "heavy": 12, "parts": 60, "matched": 4}
        for word, whole in wholes.items():
            weighing = made_weighing(12, ("plain",) if word == "plain" else (word, 5))
            self.assertEqual(weighing.weigh(0), 0)
            self.assertEqual(weighing.weigh(12), whole)
            self.assertEqual(weighing.whole(), whole)
            self.assertEqual(weighing.side, 12)

    def test_named_is_the_row(self):
        for row in rows_for(9):
            told = made_weighing(9, row).named()
            self.assertEqual(told, row)
            self.assertIs(type(told), tuple)

    def test_the_greatest_side(self):
        self.assertEqual(made_weighing(MOST_SIDE, ("parts", 60)).whole(), 60 * MOST_SIDE)
        self.assertEqual(made_weighing(MOST_SIDE, ("floors", MOST_SIDE)).whole(), 1)
        self.assertEqual(made_weighing(MOST_SIDE, ("matched", 1)).whole(), 2 * MOST_SIDE)
        self.assertEqual(made_weighing(MOST_SIDE, ("heavy", MOST_SIDE)).weigh(MOST_SIDE - 1), 0)


class NestedRows(unittest.TestCase):
    def test_first_the_one_then_the_other(self):
        self.assertEqual(weights(7, ("nested", ("floors", 2), ("heavy", 2))), [0, 0, 0, 0, 3, 3, 3, 3])
        self.assertEqual(weights(7, ("nested", ("heavy", 2), ("floors", 2))), [0, 0, 1, 1, 2, 2, 3, 3])

    def test_the_second_row_has_the_whole_of_the_first_as_its_side(self):
        self.assertEqual(made_weighing(7, ("nested", ("floors", 2), ("floors", 3))).whole(), 1)
        self.assertRaises(NoWeighing, made_weighing, 7, ("nested", ("floors", 2), ("floors", 4)))
        self.assertEqual(made_weighing(7, ("nested", ("parts", 2), ("floors", 14))).whole(), 1)
        self.assertRaises(NoWeighing, made_weighing, 7, ("nested", ("parts", 2), ("floors", 15)))
        self.assertRaises(NoWeighing, made_weighing, 7, ("nested", ("floors", 8), ("plain",)))

    def test_nested_within_nested(self):
        inner = ("nested", ("floors", 2), ("parts", 1))
        first = ("nested", inner, ("matched", 2))
        second = ("nested", ("floors", 2), ("nested", ("parts", 1), ("matched", 2)))
        self.assertEqual(weights(12, first), weights(12, second))
        self.assertEqual(weights(12, first), [0, 0, 0, 0, 0, 0, 3, 3, 6, 6, 6, 6, 6])
        self.assertEqual(made_weighing(12, first).named(), first)
        self.assertEqual(made_weighing(12, second).named(), second)

    def test_eight_rows(self):
        left, right = ("parts", 60), ("parts", 60)
        for k in range(7):
            left = ("nested", left, ("parts", 60))
            right = ("nested", ("parts", 60), right)
        for row in (left, right):
            weighing = made_weighing(MOST_SIDE, row)
            self.assertEqual(weighing.whole(), 60 ** 8 * MOST_SIDE)
            self.assertEqual(weighing.side, MOST_SIDE)
            self.assertEqual(weighing.named(), row)
            self.assertRaises(BadSide, weighing.weigh, MOST_SIDE + 1)


class TheBound(unittest.TestCase):
    def test_numbers_within_the_side_weigh_within_the_whole(self):
        for side in range(1, 15):
            for row in rows_for(side):
                weighing = made_weighing(side, row)
                with self.subTest(side=side, row=row):
                    self.assertEqual(most_together(weighing), weighing.whole())

    def test_nested_too(self):
        for side in range(1, 9):
            for row, other in itertools.product(rows_for(side), repeat=2):
                try:
                    weighing = made_weighing(side, ("nested", row, other))
                except NoWeighing:
                    continue
                self.assertLessEqual(most_together(weighing), weighing.whole())


class Refused(unittest.TestCase):
    def refused(self, side, row):
        with self.subTest(side=side, row=row):
            self.assertRaises(NoWeighing, made_weighing, side, row)
            self.assertRaises(NoWeighing, made_weighing, side, ("nested", row, ("plain",)))
            self.assertRaises(NoWeighing, made_weighing, side, ("nested", ("plain",), row))
            self.assertRaises(NoWeighing, made_weighing, side, ("nested", ("plain",), ("nested", row, ("plain",))))

    def test_other_words(self):
        for word in ("", "Plain", "floor", "light", " plain", "nest"):
            self.refused(9, (word,))
            self.refused(9, (word, 3))

    def test_one_beside_the_range(self):
        for word in ("floors", "heavy", "matched"):
            for wrong in (-1, 0, 10, MOST_SIDE):
                self.refused(9, (word, wrong))
            made_weighing(9, (word, 1))
            made_weighing(9, (word, 9))
        for wrong in (-1, 0, 61, MOST_SIDE):
            self.refused(9, ("parts", wrong))
            self.refused(100, ("parts", wrong))
        made_weighing(1, ("parts", 1))
        made_weighing(1, ("parts", 60))

    def test_no_whole_number(self):
        for word in ("floors", "heavy", "parts", "matched"):
            for wrong in (True, False, None, "3", 3.0, (3,), [3]):
                self.refused(9, (word, wrong))

    def test_a_side_of_nought(self):
        for row in (
            ("plain",), ("floors", 1), ("heavy", 1), ("parts", 1), ("matched", 1), ("floors", 0), ("what",),
            ("nested", ("plain",), ("plain",)),
        ):
            self.refused(0, row)

    def test_rows_of_another_length(self):
        for row in ((), ("plain", 3), ("floors",), ("heavy", 1, 2), ("nested",), ("nested", ("plain",))):
            self.refused(9, row)

    def test_numbers_beyond_the_side_are_not_weighed(self):
        for row in rows_for(9) + [("nested", ("floors", 2), ("parts", 2)), ("nested", ("parts", 2), ("heavy", 3))]:
            weighing = made_weighing(9, row)
            for wrong in (-1, 10, -MOST_SIDE, MOST_SIDE):
                with self.subTest(row=row, wrong=wrong):
                    self.assertRaises(BadSide, weighing.weigh, wrong)
            weighing.weigh(0)
            weighing.weigh(9)


class WhatIsKept(unittest.TestCase):
    def test_asking_changes_nothing(self):
        for row in rows_for(7) + [("nested", ("floors", 2), ("parts", 2))]:
            weighing = made_weighing(7, row)
            first = [weighing.weigh(x) for x in range(8)]
            weighing.whole()
            weighing.named()
            self.assertRaises(BadSide, weighing.weigh, 8)
            self.assertEqual([weighing.weigh(x) for x in range(8)], first)


if __name__ == "__main__":
    unittest.main()
