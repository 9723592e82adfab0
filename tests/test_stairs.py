"""[27]: STAIR, its CORNERS, and PRICES; the guarantee [7], and [8] of cuts."""

import unittest
from fractions import Fraction

from slow import Slow, corners_of, random_keeping, stair_of
from support import ALONE, ANY, BELT, PAIR, check_truth, check_unchanged, loop_of, mangled, random_live_loop, rng_of
from unwaited.judged import is_right
from unwaited.keepings import cells_many
from unwaited.matchings import fewest_cells, is_matching, matching_cells
from unwaited.stairs import are_prices, cells_for, corner_matching, corners, price_sum, prices, stair

OPEN = (BELT[0], ())
HALF = loop_of(("a", [("a", 1)]), ("b", []), ("c", [("b", 0)]))


def fraction_of(told):
    return Fraction(told[0], told[1])


def is_fraction_as_said(thing):
    return type(thing) is tuple and [type(part) for part in thing] == [int, int] and thing[1] >= 1 and \
        Fraction(*thing).denominator == thing[1]


def are_prices_as_said(slow, worths, is_cut, thing):
    """[2] once more."""
    if type(thing) is not tuple or len(thing) != 3 or not is_fraction_as_said(thing[0]) or thing[0][0] < 0:
        return False
    for part in thing[1:]:
        if type(part) is not dict or sorted(part, key=repr) != sorted(slow.read_names, key=repr):
            return False
        if not all(is_fraction_as_said(price) for price in part.values()):
            return False
    cell, tasks, places = thing
    if any(price[0] < 0 for price in tasks.values()):
        return False
    return all(worths[a] <= fraction_of(tasks[a]) + fraction_of(cell) * s + fraction_of(places[a])
               - fraction_of(places[b]) for (a, b), s in slow.shifts(is_cut).items())


def some_worths(rng, names):
    kind = rng.randrange(4)
    return {name: (rng.randint(0, 3), rng.randint(0, 1000), 1, rng.choice((0, 1, 999, 1000)))[kind] for name in names}


class Stairs(unittest.TestCase):
    def test_corners_by_chance(self):
        rng = rng_of(281)
        many = 0
        for _ in range(120):
            loop = random_live_loop(rng, 4, 2, 6)
            slow = Slow(loop)
            worths = some_worths(rng, slow.read_names)
            for is_cut in (False, True):
                points = slow.points(worths, is_cut)
                told = check_unchanged(self, corners, loop, worths, is_cut)
                self.assertEqual(told, corners_of(points))
                for cells, worth in told:
                    matching = check_unchanged(self, corner_matching, loop, worths, cells, is_cut)
                    self.assertIs(is_matching(loop, is_cut, matching), True)
                    self.assertEqual(list(matching), sorted(matching))
                    self.assertEqual((matching_cells(loop, is_cut, matching), sum(worths[name] for name in matching)),
                                     (cells, worth))
                for m in list(range(12)) + [40, 60, 10 ** 6]:
                    share = stair(loop, worths, m, is_cut)
                    self.assertEqual(share, stair_of(points, m).as_integer_ratio())
                many += len(told) > 2
        self.assertGreater(many, 30)

    def test_cells_for_by_chance(self):
        rng = rng_of(282)
        for _ in range(80):
            loop = random_live_loop(rng, 4, 2, 6)
            slow = Slow(loop)
            worths = some_worths(rng, slow.read_names)
            points = slow.points(worths, False)
            heights = [stair_of(points, m) for m in range(points[-1][0] + 2)]
            top = heights[-1]
            shares = [Fraction(rng.randint(-3, 2 * int(top) + 3), rng.randint(1, 9)) for _ in range(8)]
            for share in shares + rng.sample(heights, min(3, len(heights))) + [top, top + Fraction(1, 10 ** 9), Fraction(0)]:
                right = next((m for m, height in enumerate(heights) if height >= share), None)
                self.assertEqual(cells_for(loop, worths, share.as_integer_ratio(), False), right, (share, points))

    def test_prices_by_chance(self):
        rng = rng_of(283)
        for _ in range(80):
            loop = random_live_loop(rng, 5, 2, 6)
            slow = Slow(loop)
            worths = some_worths(rng, slow.read_names)
            for is_cut in (False, True):
                for m in (0, 1, 2, 3, 5, 8, 13, 60):
                    paper = check_unchanged(self, prices, loop, worths, m, is_cut)
                    self.assertIs(are_prices(loop, worths, is_cut, paper), True)
                    self.assertIs(are_prices_as_said(slow, worths, is_cut, paper), True)
                    self.assertEqual(price_sum(paper, m), stair(loop, worths, m, is_cut))
                    self.assertEqual([list(part) for part in paper[1:]], [slow.read_names] * 2)
                    for other in (0, 4, 20):
                        self.assertGreaterEqual(fraction_of(price_sum(paper, other)),
                                                fraction_of(stair(loop, worths, other, is_cut)))

    def test_nothing_keeps_more(self):
        rng = rng_of(284)
        right = equal = 0
        for _ in range(1200):
            loop = random_live_loop(rng, 3, 2, 5)
            names = Slow(loop).read_names
            worths = some_worths(rng, names)
            keeping = random_keeping(rng, names, 3, 3, 0.4)
            is_cut = rng.random() < 0.5
            if is_right(loop, keeping, is_cut):
                share = Fraction(sum(worths[name] for name in names for cell in keeping[1][name] if cell is not None),
                                 keeping[0])
                most = fraction_of(stair(loop, worths, cells_many(keeping), is_cut))
                self.assertLessEqual(share, most)
                right += share > 0
                equal += share > 0 and share == most
        self.assertGreater(right, 100)
        self.assertGreater(equal, 20)

    def test_worths(self):
        self.assertEqual(corners(BELT, {"a": 0, "b": 0}, False), ((0, 0),))
        self.assertEqual(corners(BELT, {"b": 1000, "a": 0}, False), ((0, 0), (3, 1000)))
        self.assertEqual(corners(BELT, {"a": 1000, "b": 1}, False), ((0, 0), (5, 1000), (8, 1001)))
        self.assertEqual(corners(BELT, {"a": 5, "b": 3}, False), ((0, 0), (8, 8)))
        self.assertEqual(stair(BELT, {"a": 5, "b": 3}, 3, False), (3, 1))
        self.assertEqual([stair(BELT, {"a": 0, "b": 0}, m, True) for m in (0, 7)], [(0, 1), (0, 1)])
        self.assertEqual(prices(BELT, {"a": 0, "b": 0}, 7, True)[0], (0, 1))
        self.assertEqual([cells_for(BELT, {"a": 0, "b": 0}, share, True) for share in ((0, 1), (1, 99), (-1, 2))], [0, None, 0])
        # Where two have no CELL alone, but one together, in one ring.
        row = loop_of(("a", []), ("b", [("a", 0)]), ("c", [("b", 0)]), ("a", "c", 1))
        self.assertEqual(corners(row, {"a": 1, "b": 1}, False), ((0, 0), (1, 2)))
        self.assertEqual(corner_matching(row, {"a": 1, "b": 1}, 1, False), {"a": "b", "b": "a"})

    def test_the_last_corner(self):
        rng = rng_of(285)
        for _ in range(80):
            loop = random_live_loop(rng, 4, 2, 6)
            names = Slow(loop).read_names
            for is_cut in (False, True):
                told = corners(loop, {name: 1 for name in names}, is_cut)
                if fewest_cells(loop, is_cut) is not None:
                    self.assertEqual(told[-1], (fewest_cells(loop, is_cut), len(names)))

    def test_no_read_task_and_no_way_back(self):
        for is_cut in (False, True):
            self.assertEqual([corners(ALONE, {}, is_cut), stair(ALONE, {}, 5, is_cut), corner_matching(ALONE, {}, 0, is_cut)],
                             [((0, 0),), (0, 1), {}])
            self.assertEqual([prices(ALONE, {}, 5, is_cut), cells_for(ALONE, {}, (0, 1), is_cut)], [((0, 1), {}, {}), 0])
            self.assertIs(cells_for(ALONE, {}, (1, 7), is_cut), None)
            self.assertEqual(corners(OPEN, {"a": 7, "b": 7}, is_cut), ((0, 0),))
            self.assertEqual(price_sum(prices(OPEN, {"a": 7, "b": 7}, 9, is_cut), 9), (0, 1))
        self.assertEqual(corners(HALF, {"a": 2, "b": 9}, False), ((0, 0), (1, 2)))
        self.assertEqual(corners(HALF, {"a": 2, "b": 9}, True), ((0, 0), (2, 2)))

    def test_order_of_keys(self):
        turned = {"b": 3, "a": 2}
        self.assertEqual(corners(BELT, turned, False), corners(BELT, {"a": 2, "b": 3}, False))
        self.assertEqual(list(prices(BELT, turned, 4, False)[1]), ["a", "b"])
        self.assertEqual(list(corner_matching(BELT, turned, 8, False)), ["a", "b"])

    def test_price_sum(self):
        self.assertEqual(price_sum(((1, 5), {"a": (0, 1), "b": (2, 5)}, {"a": (7, 1), "b": (0, 1)}), 5), (7, 5))
        self.assertEqual(price_sum(((2, 3), {}, {}), 60), (40, 1))
        self.assertEqual(price_sum(((0, 1), {"a": (1, 6), "b": (1, 3)}, {"a": (0, 1), "b": (0, 1)}), 0), (1, 2))

    def test_prices_that_are_such_by_a_little(self):
        worths = {"a": 1, "b": 1}
        paper = ((1, 5), {"a": (0, 1), "b": (2, 5)}, {"a": (0, 1), "b": (0, 1)})
        slow = Slow(BELT)
        self.assertIs(are_prices(BELT, worths, False, paper), True)
        strange = []
        for part in (1, 2):
            for name in "ab":
                for more in (Fraction(1, 5), Fraction(-1, 5), Fraction(1, 10 ** 15), Fraction(-1, 10 ** 15), Fraction(-9)):
                    changed = {**paper[part], name: (fraction_of(paper[part][name]) + more).as_integer_ratio()}
                    strange.append(tuple(changed if at == part else one for at, one in enumerate(paper)))
        strange += [((1, 6), *paper[1:]), ((10 ** 12 - 1, 5 * 10 ** 12), *paper[1:]), ((0, 1), *paper[1:]), ((-1, 5), *paper[1:])]
        strange.append(((0, 1), {"a": (1, 1), "b": (1, 1)}, {"a": (0, 1), "b": (0, 1)}))
        strange.append(((1, 4), {"a": (0, 1), "b": (1, 4)}, {"a": (-1, 4), "b": (1, 4)}))
        # Where enough is paid otherwise, neither a CELL nor a value may have a price below 0.
        great = {"a": (99, 1), "b": (99, 1)}
        strange += [((-1, 5), great, paper[2]), ((0, 1), great, paper[2]), ((99, 1), {"a": (-1, 5), "b": (0, 1)}, paper[2]),
                    ((99, 1), {"a": (0, 1), "b": (-1, 5)}, paper[2]), ((99, 1), {"a": (0, 1), "b": (0, 1)}, paper[2])]
        for is_cut in (False, True):
            for thing in strange:
                check_truth(self, are_prices(BELT, worths, is_cut, thing), are_prices_as_said(slow, worths, is_cut, thing),
                            thing)
        self.assertEqual(price_sum(paper, 5), stair(BELT, worths, 5, False))

    def test_any_value_as_prices(self):
        worths = {"a": 1, "b": 1}
        paper = prices(BELT, worths, 4, False)
        slow = Slow(BELT)
        strange = [((2, 10), *paper[1:]), (paper[0], {"a": (0, 2), "b": (2, 5)}, paper[2]), (paper[0], paper[1]),
                   ((True, 5), *paper[1:]), (0, *paper[1:]), ((1, 0), *paper[1:]), ((1, -5), *paper[1:]),
                   (paper[0], {}, {}), (paper[0], paper[1], {**paper[2], "c": (0, 1)})]
        for thing in [*ANY, paper, *mangled(paper), *strange]:
            check_truth(self, are_prices(BELT, worths, False, thing), are_prices_as_said(slow, worths, False, thing), thing)
        self.assertIs(are_prices(ALONE, {}, False, ((0, 1), {}, {})), True)
        self.assertIs(are_prices(PAIR, {"a": 5}, False, ((0, 1), {"a": (0, 1)}, {"a": (0, 1)})), True)

    def test_what_is_returned_is_new(self):
        paper = prices(BELT, {"a": 1, "b": 1}, 4, False)
        self.assertIsNot(paper[1], paper[2])
        paper[1].clear()
        corner_matching(BELT, {"a": 1, "b": 1}, 8, False).clear()
        self.assertEqual(len(prices(BELT, {"a": 1, "b": 1}, 4, False)[1]), 2)
        self.assertEqual(len(corner_matching(BELT, {"a": 1, "b": 1}, 8, False)), 2)


if __name__ == "__main__":
    unittest.main()
