"""What the document promises over the whole program."""

import ast
import itertools
import pathlib
import unittest

import cratefit
from cratefit.bars import bar, bars, tried
from cratefit.corners import cornered
from cratefit.cutting import plan_of
from cratefit.papers import bars_all, leaves
from cratefit.places import packed
from cratefit.plans import count_cuts, cut_places, plan_fault
from cratefit.search import fit, fits
from cratefit.shelves import shelved
from cratefit.strips import lowest
from walks import Numbers, has_packing, lies, overlap, sides

FOLDER = pathlib.Path(cratefit.__file__).parent

MODULES = (
    "bars", "corners", "cutting", "desk", "drawings", "errors", "loads", "papers", "places", "plans", "relations",
    "search", "shelves", "strips", "texts", "wares", "weighings",
)


def lie_within_apart(box, wares, places):
    spots = []
    for ware, (x, y, lie) in zip(wares, places, strict=True):
        if lie and not ware[2]:
            return False
        w, h = sides(ware, lie)
        spots.append((x, y, x + w, y + h))
    if any(x < 0 or y < 0 or x2 > box[0] or y2 > box[1] for x, y, x2, y2 in spots):
        return False
    return not any(overlap(one, other) for one, other in itertools.combinations(spots, 2))


def closes_every_leaf(box, wares, paper, chosen, lefts, belows):
    """The paper looked through by another hand than the program's."""
    if paper[0] == "chain":
        side, pairs = (0, lefts) if paper[1] == "across" else (1, belows)
        total = 0
        for k in paper[2]:
            if k not in chosen and len(lies(wares[k])) > 1:
                return False
            total += sides(wares[k], chosen.get(k, False))[side]
        return total > box[side] and all(pair in pairs for pair in zip(paper[2], paper[2][1:]))
    if paper[0] == "turn":
        k = paper[1]
        return k not in chosen and all(
            closes_every_leaf(box, wares, part, {**chosen, k: lie}, lefts, belows)
            for lie, part in zip((False, True), paper[2:], strict=True)
        )
    i, j, *parts = paper[1:]
    ways = (
        (lefts + [(i, j)], belows), (lefts + [(j, i)], belows), (lefts, belows + [(i, j)]), (lefts, belows + [(j, i)]),
    )
    return all(
        closes_every_leaf(box, wares, part, chosen, *way) for part, way in zip(parts, ways, strict=True)
    )


def drawn_plan(drawn, w, h, depth, wares):
    """A plan with drawn cuts; the wares of its leaves go to the end of the list."""
    if depth == 0 or drawn.upto(0, 4) == 0 or (w == 1 and h == 1):
        if drawn.upto(0, 3) == 0:
            return ("waste",)
        lie = drawn.truth()
        wares.append((h, w, True) if lie else (w, h, drawn.truth()))
        return ("ware", len(wares) - 1, lie)
    if w > 1 and (h == 1 or drawn.truth()):
        at = drawn.upto(1, w - 1)
        return ("across", at, drawn_plan(drawn, at, h, depth - 1, wares), drawn_plan(drawn, w - at, h, depth - 1, wares))
    at = drawn.upto(1, h - 1)
    return ("up", at, drawn_plan(drawn, w, at, depth - 1, wares), drawn_plan(drawn, w, h - at, depth - 1, wares))


class PlacesOrAPaper(unittest.TestCase):
    def looked_through(self, box, wares, told):
        if told[0] == "places":
            self.assertTrue(lie_within_apart(box, wares, told[1]))
            self.assertTrue(packed(box, wares, told[1]))
        else:
            self.assertEqual(told[0], "barred")
            self.assertTrue(closes_every_leaf(box, wares, told[1], {}, [], []))
            self.assertTrue(bars_all(box, wares, told[1]))
            self.assertGreaterEqual(leaves(told[1]), 1)

    def test_fit(self):
        drawn = Numbers(1)
        seen = {"places": 0, "barred": 0}
        for turn in range(200):
            wares = drawn.wares(drawn.upto(0, 5), 8)
            box = (drawn.upto(0, 16), drawn.upto(0, 16))
            told = fit(box, wares)
            seen[told[0]] += 1
            self.looked_through(box, wares, told)
            self.assertEqual(fits(box, wares), told[0] == "places")
            if told[0] == "places":
                self.assertIsNone(bar(box, wares))
        self.assertGreater(min(seen.values()), 40)

    def test_great_numbers(self):
        drawn = Numbers(2)
        for turn in range(30):
            wares = [(w * 10 ** 39 + drawn.upto(0, 9), h * 10 ** 39, turns) for w, h, turns in drawn.wares(4, 9)]
            box = (drawn.upto(5, 20) * 10 ** 39, drawn.upto(5, 20) * 10 ** 39)
            self.looked_through(box, wares, fit(box, wares))

    def test_the_lowest_strip(self):
        drawn = Numbers(3)
        for turn in range(25):
            wares = drawn.wares(drawn.upto(1, 4), 7)
            width = drawn.upto(7, 14)
            height, places, paper = lowest(width, wares)
            self.looked_through((width, height), wares, ("places", places))
            self.looked_through((width, height - 1), wares, ("barred", paper))

    def test_a_paper_that_bars_leaves_no_packing(self):
        drawn = Numbers(4)
        for turn in range(60):
            wares = drawn.wares(drawn.upto(1, 4), 3)
            box = (drawn.upto(1, 5), drawn.upto(1, 5))
            self.assertEqual(fit(box, wares)[0] == "places", has_packing(box, wares))


class WhatHasAPacking(unittest.TestCase):
    def test_is_barred_by_no_weighing(self):
        drawn = Numbers(5)
        for turn in range(60):
            box = (drawn.upto(2, 15), drawn.upto(2, 15))
            wares = drawn.wares(drawn.upto(1, 12), 7)
            places = cornered(box, wares)
            kept = [ware for ware, place in zip(wares, places) if place is not None]
            if len(kept) <= 6:
                self.assertIsNone(bar(box, kept))
            for r, t in itertools.product(tried(box[0], kept[:3]), tried(box[1], kept[:3])):
                self.assertFalse(bars(box, kept, ("weights", r, t)))
            for k in range(len(kept)):
                self.assertFalse(bars(box, kept, ("long", k)))


class PlansOfCuts(unittest.TestCase):
    def test_found_for_whatever_a_plan_cuts_out(self):
        drawn = Numbers(6)
        most = 0
        for turn in range(150):
            box = (drawn.upto(1, 30), drawn.upto(1, 30))
            wares = []
            plan = drawn_plan(drawn, box[0], box[1], 6, wares)
            if len(wares) > 40:
                continue
            most = max(most, len(wares))
            self.assertIsNone(plan_fault(box, wares, plan))
            places = cut_places(box, wares, plan)
            self.assertTrue(lie_within_apart(box, wares, places))
            told = plan_of(box, wares, places)
            self.assertEqual(told[0], "plan")
            self.assertIsNone(plan_fault(box, wares, told[1]))
            self.assertEqual(cut_places(box, wares, told[1]), places)
            self.assertGreaterEqual(count_cuts(told[1]), len(wares) - 1)
        self.assertGreater(most, 10)


class Shelves(unittest.TestCase):
    def test_never_higher_than_twice_the_area_asks_and_the_tallest_more(self):
        drawn = Numbers(7)
        for turn in range(100):
            width = drawn.upto(1, 40)
            wares = [(drawn.upto(1, width), drawn.upto(1, 30), drawn.truth()) for k in range(drawn.upto(1, 40))]
            for word in ("next", "first", "best"):
                height, places = shelved(width, wares, word)
                self.assertTrue(lie_within_apart((width, height), wares, places))
                area = sum(w * h for w, h, turns in wares)
                tallest = max(h for w, h, turns in wares)
                self.assertLessEqual((width + 1) * (height - tallest), 2 * area)


class ThePackage(unittest.TestCase):
    def trees(self):
        for path in sorted(FOLDER.glob("*.py")):
            yield path, ast.parse(path.read_text())

    def test_every_module_is_there(self):
        names = sorted(path.stem for path in FOLDER.glob("*.py") if path.stem != "__init__")
        self.assertEqual(names, sorted(MODULES))

    def test_it_draws_from_itself_alone(self):
        # So nothing hangs on a clock, chance or files.
        for path, tree in self.trees():
            for node in ast.walk(tree):
                self.assertNotIsInstance(node, ast.Import, path)
                if isinstance(node, ast.ImportFrom):
                    self.assertEqual(node.module.split(".")[0], "cratefit", path)
                if isinstance(node, ast.Name):
                    self.assertNotIn(node.id, ("open", "input", "print", "exec", "eval"), path)

    def test_small_functions_and_files(self):
        for path, tree in self.trees():
            lines = path.read_text().split("\n")
            self.assertLessEqual(len(lines) - 1, 400, path)
            self.assertLessEqual(max(len(line) for line in lines), 120, path)
            for node in ast.walk(tree):
                if isinstance(node, ast.FunctionDef):
                    self.assertLessEqual(node.end_lineno - node.lineno + 1, 40, node.name)


if __name__ == "__main__":
    unittest.main()
