import inspect
import itertools
import unittest

from cratefit.errors import BadPacking, TooMany
from cratefit.papers import bars_all, leaves, led
from cratefit.places import fault, packed, spot_of
from cratefit.search import fit, fits
from walks import Numbers, across, has_packing, lies, packings, sides, small_wares, up

SIDE = 10 ** 40
GREAT = 10 ** 42


def chains_of(pairs, taken):
    chains = [[k] for k in taken]
    for chain in chains:
        chains.extend(chain + [j] for i, j in pairs if i == chain[-1])
    return chains


def plain_fit(box, wares):
    """The search word by word, with every chain walked anew: leaves are told as their word alone."""
    order = sorted(range(len(wares)), key=lambda k: (-wares[k][0] * wares[k][1], k))
    steps = []
    for at, k in enumerate(order):
        steps.append((k,))
        steps.extend((i, k) for i in order[:at])

    def total(chosen, side, chain):
        return sum(sides(wares[k], chosen[k])[side] for k in chain)

    def closed(chosen, pairs):
        return any(
            total(chosen, side, chain) > box[side]
            for side in (0, 1) for chain in chains_of(pairs[side], chosen)
        )

    def leads(pairs, i, j):
        return any(chain[0] == i and chain[-1] == j for chain in chains_of(pairs, [i]))

    def go(at, chosen, pairs):
        if closed(chosen, pairs):
            return ("barred", "leaf")
        if at == len(steps):
            chains = [chains_of(pairs[side], chosen) for side in (0, 1)]
            return ("places", [
                tuple(
                    max(total(chosen, side, chain[:-1]) for chain in chains[side] if chain[-1] == k)
                    for side in (0, 1)
                ) + (chosen[k],)
                for k in range(len(wares))
            ])
        step = steps[at]
        if len(step) == 1:
            head = ("turn",) + step
            ways = [(chosen | {step[0]: lie}, pairs) for lie in lies(wares[step[0]])]
        else:
            i, j = step
            head = ("pair",) + step
            if any(leads(pairs[side], a, b) for side in (0, 1) for a, b in ((i, j), (j, i))):
                return go(at + 1, chosen, pairs)
            ways = [(chosen, (pairs[0] + [two], pairs[1])) for two in ((i, j), (j, i))]
            ways += [(chosen, (pairs[0], pairs[1] + [two])) for two in ((i, j), (j, i))]
        parts = []
        for way in ways:
            told = go(at + 1, *way)
            if told[0] == "places":
                return told
            parts.append(told[1])
        return ("barred", parts[0] if len(parts) == 1 else head + tuple(parts))

    return go(0, {}, ([], []))


def bare(paper):
    """The paper with its leaves told as a word alone: which chain a leaf tells is free."""
    if paper[0] == "chain":
        return "leaf"
    return tuple(bare(part) if isinstance(part, tuple) else part for part in paper)


class TheInterface(unittest.TestCase):
    def test_arguments(self):
        self.assertEqual(str(inspect.signature(fit)), "(box, wares)")
        self.assertEqual(str(inspect.signature(fits)), "(box, wares)")


class Worked(unittest.TestCase):
    """Cases worked by hand."""

    def test_no_wares(self):
        for box in ((0, 0), (0, 9), (9, 9)):
            self.assertEqual(fit(box, []), ("places", []))
            self.assertIs(fits(box, []), True)

    def test_one_ware(self):
        self.assertEqual(fit((4, 3), [(4, 3, False)]), ("places", [(0, 0, False)]))
        self.assertEqual(fit((3, 3), [(4, 3, False)]), ("barred", across(0)))
        self.assertEqual(fit((4, 2), [(4, 3, False)]), ("barred", up(0)))
        self.assertIs(fits((4, 2), [(4, 3, False)]), False)

    def test_one_ware_that_turns(self):
        self.assertEqual(fit((4, 4), [(4, 3, True)]), ("places", [(0, 0, False)]))
        self.assertEqual(fit((3, 4), [(4, 3, True)]), ("places", [(0, 0, True)]))
        self.assertEqual(fit((3, 3), [(4, 3, True)]), ("barred", ("turn", 0, across(0), up(0))))

    def test_a_square_that_turns_has_no_turn(self):
        self.assertEqual(fit((4, 4), [(4, 4, True)]), ("places", [(0, 0, False)]))
        self.assertEqual(fit((4, 3), [(4, 4, True)]), ("barred", up(0)))

    def test_the_order_of_the_four(self):
        wares = [(2, 2, False), (2, 2, False)]
        self.assertEqual(fit((4, 4), wares), ("places", [(0, 0, False), (2, 0, False)]))
        self.assertEqual(fit((3, 4), wares), ("places", [(0, 0, False), (0, 2, False)]))
        self.assertEqual(fit((3, 3), wares), ("barred", ("pair", 0, 1, across(0, 1), across(1, 0), up(0, 1), up(1, 0))))

    def test_the_greater_area_is_taken_first(self):
        wares = [(2, 1, False), (3, 2, True)]
        self.assertEqual(fit((4, 3), wares), ("places", [(0, 2, False), (0, 0, False)]))
        self.assertEqual(
            fit((4, 2), wares),
            ("barred", ("turn", 1, ("pair", 1, 0, across(1, 0), across(0, 1), up(1, 0), up(0, 1)), up(1))),
        )

    def test_the_lie_of_the_second_ware_comes_behind_the_first_and_ahead_of_the_pair(self):
        wares = [(3, 3, False), (3, 2, True)]
        two = ("pair", 0, 1, across(0, 1), across(1, 0), up(0, 1), up(1, 0))
        self.assertEqual(fit((4, 4), wares), ("barred", ("turn", 1, two, two)))
        self.assertEqual(fit((5, 4), wares), ("places", [(0, 0, False), (3, 0, True)]))

    def test_a_chain_of_three(self):
        wares = [(1, 1, False)] * 3
        self.assertEqual(fit((3, 1), wares), ("places", [(0, 0, False), (1, 0, False), (2, 0, False)]))
        told = fit((2, 1), wares)[1]
        second = ("pair", 1, 2, across(0, 1, 2), across(0, 2, 1), up(1, 2), up(2, 1))
        first = ("pair", 0, 2, second, across(2, 0, 1), up(0, 2), up(2, 0))
        self.assertEqual(told[:4], ("pair", 0, 1, first))
        self.assertEqual(told[5:], (up(0, 1), up(1, 0)))

    def test_related_already_is_not_asked_again(self):
        told = fit((6, 2), [(2, 2, False)] * 3 + [(3, 1, False)])[1]
        self.assertEqual(told[:3], ("pair", 0, 1))
        # Behind 0 left of 1 and 0 left of 2, 2 is held against 1; behind 2 left of 0 it need not be.
        self.assertEqual(told[3][:3], ("pair", 0, 2))
        self.assertEqual(told[3][3][:3], ("pair", 1, 2))
        self.assertEqual(told[3][4][:3], ("pair", 0, 3))

    def test_sides_of_nought(self):
        self.assertEqual(fit((0, 5), [(1, 1, False)]), ("barred", across(0)))
        self.assertEqual(fit((5, 0), [(1, 1, True)]), ("barred", up(0)))

    def test_settled_at_the_starts(self):
        wares = [(3, 3, False), (2, 2, False), (2, 2, False), (1, 1, False)]
        told = fit((5, 4), wares)
        self.assertEqual(told, plain_fit((5, 4), wares))
        self.assertEqual(told, ("places", [(0, 0, False), (3, 0, False), (3, 2, False), (0, 3, False)]))

    def test_the_pinwheel(self):
        wares = [(2, 1, True), (2, 1, True), (2, 1, True), (2, 1, True), (1, 1, False)]
        told = fit((3, 3), wares)
        self.assertEqual(told[0], "places")
        self.assertTrue(packed((3, 3), wares, told[1]))

    def test_great(self):
        wares = [(SIDE, SIDE, True)] * 5
        self.assertEqual(fit((GREAT, SIDE), wares), ("places", [(k * SIDE, 0, False) for k in range(5)]))
        told = fit((5 * SIDE - 1, 2 * SIDE - 1), wares)
        self.assertEqual(told[0], "barred")
        self.assertTrue(bars_all((5 * SIDE - 1, 2 * SIDE - 1), wares, told[1]))


class TooManyWares(unittest.TestCase):
    def test_five_and_six(self):
        self.assertIs(fits((5, 1), [(1, 1, False)] * 5), True)
        for box in ((9, 9), (0, 0)):
            self.assertRaises(TooMany, fit, box, [(1, 1, False)] * 6)
            self.assertRaises(TooMany, fits, box, [(1, 1, False)] * 6)
        self.assertRaises(TooMany, fit, (9, 9), [(99, 99, False)] * 7)


class HeldAgainstThePlainSearch(unittest.TestCase):
    def same(self, box, wares):
        told = fit(box, wares)
        plain = plain_fit(box, wares)
        self.assertEqual(told[0], plain[0])
        self.assertEqual(told[1] if told[0] == "places" else bare(told[1]), plain[1])
        self.assertIs(fits(box, wares), told[0] == "places")
        if told[0] == "places":
            self.assertIsNone(fault(box, wares, told[1]))
            self.assertIs(type(told[1]), list)
        else:
            self.assertTrue(bars_all(box, wares, told[1]))
        return told[0]

    def test_drawn_cases(self):
        drawn = Numbers(5)
        seen = {"places": 0, "barred": 0}
        for turn in range(250):
            count = drawn.upto(1, 4)
            wares = drawn.wares(count, 6)
            seen[self.same((drawn.upto(3, 11), drawn.upto(3, 11)), wares)] += 1
        self.assertGreater(min(seen.values()), 50)

    def test_five_wares(self):
        drawn = Numbers(8)
        for turn in range(12):
            self.same((drawn.upto(6, 9), drawn.upto(6, 9)), drawn.wares(5, 6))


class HeldAgainstAWalkOverAllPlaces(unittest.TestCase):
    def test_small_boxes(self):
        for box in ((1, 1), (2, 1), (2, 2), (3, 2), (3, 3), (0, 2)):
            for wares in itertools.chain(small_wares(1, 3), small_wares(2, 3), small_wares(3, 2)):
                told = fit(box, wares)
                self.assertEqual(told[0] == "places", has_packing(box, wares))
                if told[0] == "places":
                    self.assertTrue(packed(box, wares, told[1]))
                else:
                    self.assertTrue(bars_all(box, wares, told[1]))

    def test_five_wares(self):
        drawn = Numbers(77)
        seen = {"places": 0, "barred": 0}
        for turn in range(40):
            wares = drawn.wares(5, 3)
            box = (drawn.upto(3, 5), drawn.upto(3, 5))
            told = fit(box, wares)
            seen[told[0]] += 1
            self.assertEqual(told[0] == "places", has_packing(box, wares))
        self.assertGreater(min(seen.values()), 5)

    def test_a_case_with_many_leaves(self):
        wares = [(4, 5, True)] * 5
        told = fit((11, 11), wares)
        self.assertEqual(told[0], "barred")
        self.assertEqual(leaves(told[1]), 80864)
        self.assertTrue(bars_all((11, 11), wares, told[1]))
        self.assertFalse(bars_all((12, 12), wares, told[1]))


class LedThroughToldPapers(unittest.TestCase):
    def test_the_chain_of_the_leaf_has_a_ware_outside(self):
        wares = [(2, 1, True), (2, 2, False), (1, 2, False)]
        box = (3, 2)
        told = fit(box, wares)
        self.assertEqual(told[0], "barred")
        for places in packings((4, 4), wares):
            word, numbers = led(wares, list(places), told[1])[1:]
            side = 0 if word == "across" else 1
            ends = [spot_of(wares[k], places[k])[side + 2] for k in numbers]
            self.assertGreater(max(ends), box[side])

    def test_what_overlaps(self):
        wares = [(2, 2, False), (2, 2, False)]
        paper = fit((3, 3), wares)[1]
        with self.assertRaises(BadPacking) as caught:
            led(wares, [(0, 0, False), (1, 1, False)], paper)
        self.assertEqual(caught.exception.why, ("over", 0, 1))


class WhatIsHandedInAndTold(unittest.TestCase):
    def test_what_is_handed_in_stays(self):
        wares = [(2, 1, True), (3, 2, False), (3, 3, True)]
        for box in ((3, 3), (9, 9)):
            fit(box, wares)
            fits(box, wares)
        self.assertEqual(wares, [(2, 1, True), (3, 2, False), (3, 3, True)])

    def test_places_are_the_askers_own(self):
        for wares in ([], [(2, 1, True), (3, 2, False)]):
            told = fit((9, 9), wares)[1]
            kept = list(told)
            told.append("more")
            self.assertEqual(fit((9, 9), wares)[1], kept)

    def lists_in(self, paper):
        if paper[0] == "chain":
            return [paper[2]]
        return [one for part in paper if isinstance(part, tuple) for one in self.lists_in(part)]

    def test_each_list_of_a_paper_is_one_by_itself(self):
        wares = [(2, 2, False), (3, 2, True), (3, 3, True)]
        told = fit((4, 4), wares)[1]
        lists = self.lists_in(told)
        self.assertEqual(len(set(id(one) for one in lists)), len(lists))
        for one in lists:
            self.assertIs(type(one), list)
            one.clear()
        self.assertTrue(bars_all((4, 4), wares, fit((4, 4), wares)[1]))


if __name__ == "__main__":
    unittest.main()
