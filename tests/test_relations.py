import inspect
import itertools
import unittest

from cratefit.errors import BadTurn, Ring
from cratefit.places import packed, spot_of
from cratefit.relations import longest, pushed, related, settled, starts_of

GREAT = 10 ** 42
SIDE = 10 ** 40
MOST_SIZE = 10 ** 60


def all_chains(count, pairs):
    chains = [[k] for k in range(count)]
    for chain in chains:
        chains.extend(chain + [j] for j in range(count) if (chain[-1], j) in pairs)
    return chains


def total_of(sizes, chain):
    return sum(sizes[k] for k in chain)


def small_graphs():
    """All lists of pairs without a ring among four numbers in one order, some of them turned about."""
    forward = list(itertools.combinations(range(4), 2))
    for length in range(len(forward) + 1):
        for pairs in itertools.combinations(forward, length):
            yield list(pairs)
            yield [(3 - i, 3 - j) for i, j in reversed(pairs)]


RINGS = (
    (1, [(0, 0)]),
    (2, [(0, 1), (1, 0)]),
    (3, [(0, 1), (1, 2), (2, 0)]),
    (3, [(2, 1), (1, 2)]),
    (4, [(0, 1), (3, 3)]),
    (5, [(0, 1), (1, 2), (2, 3), (3, 4), (4, 1)]),
    (5, [(0, 1), (0, 1), (2, 3), (3, 2), (3, 4)]),
)


class TheInterface(unittest.TestCase):
    def test_arguments(self):
        self.assertEqual(str(inspect.signature(related)), "(wares, places)")
        self.assertEqual(str(inspect.signature(starts_of)), "(sizes, pairs)")
        self.assertEqual(str(inspect.signature(longest)), "(sizes, pairs)")
        self.assertEqual(str(inspect.signature(settled)), "(wares, lies, lefts, belows)")
        self.assertEqual(str(inspect.signature(pushed)), "(wares, places)")


class Related(unittest.TestCase):
    def test_none_and_one(self):
        self.assertEqual(related([], []), ([], []))
        self.assertEqual(related([(3, 4, True)], [(0, 0, True)]), ([], []))

    def test_touching(self):
        wares = [(3, 4, False), (2, 4, False)]
        self.assertEqual(related(wares, [(0, 0, False), (3, 0, False)]), ([(0, 1)], []))
        self.assertEqual(related(wares, [(2, 0, False), (0, 0, False)]), ([(1, 0)], []))
        self.assertEqual(related(wares, [(0, 0, False), (0, 4, False)]), ([], [(0, 1)]))
        self.assertEqual(related(wares, [(0, 4, False), (0, 0, False)]), ([], [(1, 0)]))

    def test_one_short_of_touching(self):
        wares = [(3, 4, False), (2, 4, False)]
        self.assertEqual(related(wares, [(0, 0, False), (2, 0, False)]), ([], []))
        self.assertEqual(related(wares, [(0, 0, False), (0, 3, False)]), ([], []))

    def test_left_of_and_below_both(self):
        wares = [(3, 4, False), (2, 4, False)]
        self.assertEqual(related(wares, [(0, 0, False), (9, 9, False)]), ([(0, 1)], [(0, 1)]))
        self.assertEqual(related(wares, [(9, 0, False), (0, 9, False)]), ([(1, 0)], [(0, 1)]))

    def test_the_lie_counts(self):
        wares = [(3, 4, True), (2, 4, False)]
        self.assertEqual(related(wares, [(0, 0, False), (3, 0, False)]), ([(0, 1)], []))
        self.assertEqual(related(wares, [(0, 0, True), (3, 0, False)]), ([], []))
        self.assertEqual(related(wares, [(0, 0, True), (3, 3, False)]), ([], [(0, 1)]))

    def test_rising_order(self):
        wares = [(1, 1, False)] * 4
        places = [(3, 0, False), (2, 1, False), (1, 2, False), (0, 3, False)]
        self.assertEqual(
            related(wares, places),
            ([(1, 0), (2, 0), (2, 1), (3, 0), (3, 1), (3, 2)], [(0, 1), (0, 2), (0, 3), (1, 2), (1, 3), (2, 3)]),
        )

    def test_great_numbers(self):
        wares = [(SIDE, SIDE, False), (SIDE, 1, True)]
        places = [(-GREAT, GREAT, False), (SIDE - GREAT, GREAT - SIDE, True)]
        self.assertEqual(related(wares, places), ([(0, 1)], [(1, 0)]))

    def test_turned_that_may_not_be(self):
        self.assertRaises(BadTurn, related, [(3, 4, True), (2, 4, False)], [(0, 0, True), (9, 9, True)])


class StartsOf(unittest.TestCase):
    def test_no_sizes_and_no_pairs(self):
        self.assertEqual(starts_of([], []), [])
        self.assertEqual(starts_of([5, 6], []), [0, 0])

    def test_a_chain_and_a_fork(self):
        self.assertEqual(starts_of([5, 6, 7], [(0, 1), (1, 2)]), [0, 5, 11])
        self.assertEqual(starts_of([5, 6, 7], [(0, 2), (1, 2)]), [0, 0, 6])
        self.assertEqual(starts_of([5, 6, 7], [(2, 1), (2, 0), (1, 0)]), [13, 7, 0])

    def test_pairs_in_any_order_and_twice(self):
        self.assertEqual(starts_of([5, 6, 7], [(1, 2), (0, 1), (1, 2), (0, 1)]), [0, 5, 11])

    def test_sizes_of_nought(self):
        self.assertEqual(starts_of([0, 0, 0], [(0, 1), (1, 2)]), [0, 0, 0])
        self.assertEqual(starts_of([0, 4, 0], [(0, 1), (1, 2), (0, 2)]), [0, 0, 4])

    def test_rings(self):
        for count, pairs in RINGS:
            for size in (0, 1, MOST_SIZE):
                with self.subTest(pairs=pairs, size=size):
                    self.assertRaises(Ring, starts_of, [size] * count, pairs)

    def test_held_against_all_chains(self):
        for sizes in ([1, 2, 3, 4], [7, 0, 5, 1], [0, 0, 0, 0], [3, 3, 3, 3]):
            for pairs in small_graphs():
                chains = all_chains(4, pairs)
                expected = [
                    max([total_of(sizes, chain) for chain in chains if (chain[-1], j) in pairs], default=0)
                    for j in range(4)
                ]
                self.assertEqual(starts_of(sizes, pairs), expected)

    def test_a_hundred_great_sizes(self):
        pairs = [(i, j) for i in range(100) for j in range(100) if i > j]
        self.assertEqual(
            starts_of([MOST_SIZE] * 100, pairs),
            [MOST_SIZE * (99 - k) for k in range(100)],
        )
        self.assertRaises(Ring, starts_of, [MOST_SIZE] * 100, pairs + [(0, 99)])


class Longest(unittest.TestCase):
    def test_no_sizes(self):
        self.assertEqual(longest([], []), (0, []))

    def test_one_size(self):
        self.assertEqual(longest([5], []), (5, [0]))
        self.assertEqual(longest([0], []), (0, [0]))

    def test_a_single_number_may_be_longest(self):
        self.assertEqual(longest([1, 1, 9], [(0, 1)]), (9, [2]))
        self.assertEqual(longest([5, 6, 7], [(2, 0), (0, 1)]), (18, [2, 0, 1]))

    def test_rings(self):
        for count, pairs in RINGS:
            for size in (0, 1):
                with self.subTest(pairs=pairs, size=size):
                    self.assertRaises(Ring, longest, [size] * count, pairs)

    def test_held_against_all_chains(self):
        for sizes in ([1, 2, 3, 4], [7, 0, 5, 1], [0, 0, 0, 0], [3, 3, 3, 3]):
            for pairs in small_graphs():
                for told_pairs in (pairs, pairs + pairs):
                    total, chain = longest(sizes, told_pairs)
                    chains = all_chains(4, pairs)
                    self.assertIn(chain, chains)
                    self.assertEqual(total, total_of(sizes, chain))
                    self.assertEqual(total, max(total_of(sizes, one) for one in chains))

    def test_a_hundred_great_sizes(self):
        pairs = [(k, k + 1) for k in range(99)]
        self.assertEqual(longest([MOST_SIZE] * 100, pairs), (100 * MOST_SIZE, list(range(100))))


class Settled(unittest.TestCase):
    wares = [(3, 4, True), (2, 5, False), (6, 6, True)]

    def test_without_pairs_all_lie_at_nought(self):
        self.assertEqual(
            settled(self.wares, [True, False, True], [], []),
            [(0, 0, True), (0, 0, False), (0, 0, True)],
        )

    def test_widths_across_and_heights_up(self):
        self.assertEqual(
            settled(self.wares, [False, False, False], [(0, 1)], [(0, 2), (1, 2)]),
            [(0, 0, False), (3, 0, False), (0, 5, False)],
        )

    def test_the_lie_counts(self):
        self.assertEqual(
            settled(self.wares, [True, False, False], [(0, 1)], [(0, 2)]),
            [(0, 0, True), (4, 0, False), (0, 3, False)],
        )

    def test_pairs_that_stand_twice(self):
        self.assertEqual(
            settled(self.wares, [False] * 3, [(1, 2), (0, 1), (0, 1)], [(2, 1), (2, 1)]),
            [(0, 0, False), (3, 6, False), (5, 0, False)],
        )

    def test_no_wares(self):
        self.assertEqual(settled([], [], [], []), [])

    def test_places_are_tuples(self):
        for place in settled(self.wares, [True, False, True], [], []):
            self.assertIs(type(place), tuple)
            self.assertIs(type(place[2]), bool)

    def test_rings_across_and_up(self):
        for lefts, belows in (([(0, 1), (1, 0)], []), ([], [(2, 2)]), ([(0, 1), (1, 2), (2, 0)], [(0, 0)])):
            self.assertRaises(Ring, settled, self.wares, [False] * 3, lefts, belows)

    def test_turned_that_may_not_be_comes_ahead_of_a_ring(self):
        self.assertRaises(BadTurn, settled, self.wares, [False, True, False], [], [])
        self.assertRaises(BadTurn, settled, self.wares, [False, True, False], [(0, 0)], [(0, 1), (1, 0)])

    def test_great_sides(self):
        wares = [(SIDE, SIDE, False)] * 100
        pairs = [(k, k + 1) for k in range(99)]
        self.assertEqual(settled(wares, [False] * 100, pairs, [])[99], (99 * SIDE, 0, False))


class Pushed(unittest.TestCase):
    wares = [(3, 4, True), (2, 5, False), (1, 1, False)]

    def test_left_and_down(self):
        places = [(2, 2, True), (7, 1, False), (9, 6, False)]
        self.assertEqual(pushed(self.wares, places), [(0, 0, True), (4, 0, False), (6, 5, False)])

    def test_what_overlaps_is_not_held_apart(self):
        places = [(2, 2, False), (3, 3, False), (9, 9, False)]
        self.assertEqual(pushed(self.wares, places), [(0, 0, False), (0, 0, False), (3, 5, False)])

    def test_none(self):
        self.assertEqual(pushed([], []), [])

    def test_below_nought_and_great(self):
        places = [(-GREAT, GREAT, False), (GREAT, -GREAT, False), (0, 0, False)]
        self.assertEqual(pushed(self.wares, places), [(0, 6, False), (4, 0, False), (3, 5, False)])

    def test_turned_that_may_not_be(self):
        self.assertRaises(BadTurn, pushed, self.wares, [(0, 0, False), (0, 0, True), (0, 0, False)])

    def test_packings_stay_packings_and_nothing_grows(self):
        wares = [(2, 1, True), (1, 1, False), (1, 2, False)]
        box = (4, 4)
        spots = [(x, y) for x in range(4) for y in range(4)]
        seen = 0
        for corners in itertools.product(spots, repeat=3):
            for lie in (False, True):
                places = [corners[0] + (lie,), corners[1] + (False,), corners[2] + (False,)]
                if not packed(box, wares, places):
                    continue
                seen += 1
                told = pushed(wares, places)
                self.assertTrue(packed(box, wares, told))
                self.assertEqual([place[2] for place in told], [lie, False, False])
                for place, was in zip(told, places):
                    self.assertLessEqual(place[0], was[0])
                    self.assertLessEqual(place[1], was[1])
                self.assertEqual(pushed(wares, told), told)
        self.assertGreater(seen, 1000)

    def test_a_hundred_wares(self):
        wares = [(2, 3, False)] * 100
        places = [(5 * k, 7 * (k % 2), False) for k in range(100)]
        told = pushed(wares, places)
        self.assertEqual([place[0] for place in told], [2 * k for k in range(100)])
        self.assertEqual(spot_of(wares[1], told[1]), (2, 3, 4, 6))
        self.assertEqual(pushed(wares, told), told)


class WhatIsHandedInAndTold(unittest.TestCase):
    def test_what_is_handed_in_stays(self):
        wares = [(3, 4, True), (2, 5, False)]
        places = [(0, 0, True), (9, 9, False)]
        sizes, pairs, lies = [1, 2], [(1, 0), (1, 0)], [True, False]
        related(wares, places)
        starts_of(sizes, pairs)
        longest(sizes, pairs)
        settled(wares, lies, pairs, pairs)
        pushed(wares, places)
        self.assertEqual(wares, [(3, 4, True), (2, 5, False)])
        self.assertEqual(places, [(0, 0, True), (9, 9, False)])
        self.assertEqual((sizes, pairs, lies), ([1, 2], [(1, 0), (1, 0)], [True, False]))

    def test_told_lists_are_the_askers_own(self):
        wares, places = [(3, 4, True), (2, 5, False)], [(0, 0, False), (9, 9, False)]
        asked = (
            lambda: related(wares, places)[0], lambda: related(wares, places)[1],
            lambda: related([], [])[0], lambda: related([], [])[1],
            lambda: starts_of([1, 2], [(0, 1)]), lambda: starts_of([], []),
            lambda: longest([1, 2], [(0, 1)])[1], lambda: longest([], [])[1],
            lambda: settled(wares, [False, False], [(0, 1)], []), lambda: settled([], [], [], []),
            lambda: pushed(wares, places), lambda: pushed([], []),
        )
        for ask in asked:
            told = ask()
            kept = list(told)
            self.assertIs(type(told), list)
            told.append("more")
            self.assertEqual(ask(), kept)

    def test_the_two_lists_of_relations_are_two(self):
        lefts, belows = related([], [])
        lefts.append((0, 1))
        self.assertEqual(belows, [])


if __name__ == "__main__":
    unittest.main()
