"""[28]: SHARES and KEEPINGS that keep as much as can be; the guarantee [7], and [8] of cuts."""

import itertools
import unittest
from fractions import Fraction

from slow import Slow
from support import ALONE, ANY, BELT, PAIR, check_truth, check_unchanged, loop_of, mangled, random_live_loop, rng_of
from unwaited.errors import TooMany
from unwaited.forms import is_keeping
from unwaited.judged import is_right
from unwaited.keepings import cells_many, longer
from unwaited.rings import keeping_of_rings, rings_of
from unwaited.shares import corner_keeping, is_best, keeping_with, share_of
from unwaited.stairs import are_prices, corner_matching, corners, price_sum, prices, stair

OPEN = (BELT[0], ())
WORTHS = {"a": 1, "b": 1}
PAPER = ((1, 5), {"a": (0, 1), "b": (2, 5)}, {"a": (0, 1), "b": (0, 1)})
TEN = loop_of(*((name, [(name, 1)]) for name in "abcdefghij"))


def goes_by(keeping, n):
    """Whether a KEEPING goes BY n."""
    period, rows = keeping
    return all((row[i % period] is None) == (row[(i + n) % period] is None) for row in rows.values()
               for i in range(period * n))


def is_there(slow, worths, m, n, is_cut, share):
    """Whether there is a KEEPING by n: some values of n rounds, each with a next one among them, the STEP that has
    its TURN behind it first; all these rounds together, by n, are the CELLS."""
    nodes = [(name, at) for name in slow.read_names for at in range(n)]
    behind = {}
    for (a, i), (b, j) in itertools.product(nodes, nodes):
        rounds = [s for s in range(60) if (i + s) % n == j and (a, 0) != (b, s) and slow.turn((a, 0), (b, s), is_cut)]
        if rounds:
            behind[(a, i), (b, j)] = rounds[0]
    for many in range(len(nodes) + 1):
        for kept in itertools.combinations(nodes, many):
            if Fraction(sum(worths[name] for name, _ in kept), n) != share:
                continue
            for order in itertools.permutations(kept):
                couples = list(zip(kept, order))
                if all(couple in behind for couple in couples) and sum(behind[couple] for couple in couples) <= m * n:
                    return True
    return False


class Shares(unittest.TestCase):
    def test_share_of(self):
        self.assertEqual(share_of(WORTHS, (2, {"a": (0, None), "b": (None, None)})), (1, 2))
        self.assertEqual(share_of({"a": 7, "b": 1000}, (3, {"b": (0, 1, None), "a": (2, None, None)})), (669, 1))
        self.assertEqual(share_of({"a": 4}, (6, {"a": (0, None, 0, None, None, 0)})), (2, 1))
        self.assertEqual([share_of({}, (5, {})), share_of({"a": 0}, (2, {"a": (0, 1)}))], [(0, 1), (0, 1)])
        check_unchanged(self, share_of, {"b": 3, "a": 2}, (2, {"b": (0, 1), "a": (None, 1)}))

    def test_corner_keepings_by_chance(self):
        rng = rng_of(291)
        many = 0
        for _ in range(100):
            loop = random_live_loop(rng, 4, 2, 6)
            worths = {name: rng.randint(0, 5) for name in Slow(loop).read_names}
            for is_cut in (False, True):
                for cells, worth in corners(loop, worths, is_cut):
                    keeping = check_unchanged(self, corner_keeping, loop, worths, cells, is_cut)
                    self.assertIs(is_keeping(loop, keeping), True)
                    self.assertIs(is_right(loop, keeping, is_cut), True)
                    self.assertEqual(share_of(worths, keeping), (worth, 1))
                    self.assertLessEqual(cells_many(keeping), cells)
                    self.assertTrue(goes_by(keeping, 1))
                    matching = corner_matching(loop, worths, cells, is_cut)
                    self.assertEqual(keeping, keeping_of_rings(loop, rings_of(loop, matching, is_cut)))
                    for m in (cells, cells + 1):
                        self.assertIs(is_best(loop, worths, m, is_cut, keeping, prices(loop, worths, m, is_cut)),
                                      stair(loop, worths, m, is_cut) == (worth, 1))
                    many += cells > 0
        self.assertGreater(many, 100)

    def test_keepings_by_chance(self):
        rng = rng_of(292)
        there = {False: 0, True: 0}
        for _ in range(200):
            loop = random_live_loop(rng, 3, 2, 5)
            slow = Slow(loop)
            worths = {name: rng.randint(0, 3) for name in slow.read_names}
            is_cut = rng.random() < 0.5
            most = corners(loop, worths, is_cut)[-1][0]
            for n in (1, 2, 3, 4, 5):
                if n * len(worths) > 5:
                    continue
                for m in range(min(most + 1, 6) + 1):
                    share = stair(loop, worths, m, is_cut)
                    keeping = check_unchanged(self, keeping_with, loop, worths, m, n, is_cut)
                    self.assertIs(is_there(slow, worths, m, n, is_cut, Fraction(*share)), keeping is not None)
                    if keeping is not None:
                        self.assertIs(is_keeping(loop, keeping), True)
                        self.assertIs(is_right(loop, keeping, is_cut), True)
                        self.assertLessEqual(cells_many(keeping), m)
                        self.assertEqual(share_of(worths, keeping), share)
                        self.assertTrue(goes_by(keeping, n))
                        paper = prices(loop, worths, m, is_cut)
                        self.assertIs(is_best(loop, worths, m, is_cut, keeping, paper), True)
                    there[keeping is not None] += 1
        self.assertGreater(min(there.values()), 40)

    def test_between_corners(self):
        rng = rng_of(293)
        there = {False: 0, True: 0}
        for _ in range(60):
            loop = random_live_loop(rng, 5, 3, 9)
            names = Slow(loop).read_names
            worths = {name: rng.randint(0, 9) for name in names}
            points = corners(loop, worths, False)
            for (cells, _), (behind, _) in zip(points, points[1:]):
                for n in range(1, 12 // len(names) + 1):
                    m = rng.randint(cells, behind)
                    keeping = keeping_with(loop, worths, m, n, False)
                    there[keeping is not None] += 1
                    if keeping is not None and keeping[0] < 2000:
                        self.assertIs(is_right(loop, keeping, False), True)
                        self.assertTrue(goes_by(keeping, n))
                        self.assertIs(is_best(loop, worths, m, False, keeping, prices(loop, worths, m, False)), True)
        self.assertGreater(min(there.values()), 20)

    def test_one_is_there_or_none(self):
        self.assertIsNone(keeping_with(BELT, WORTHS, 1, 1, False))
        self.assertIsNone(keeping_with(BELT, WORTHS, 1, 2, False))
        self.assertEqual(share_of(WORTHS, keeping_with(BELT, WORTHS, 1, 3, False)), (1, 3))
        self.assertIsNone(keeping_with(BELT, WORTHS, 4, 1, False))
        self.assertEqual(share_of(WORTHS, keeping_with(BELT, WORTHS, 4, 5, False)), (6, 5))
        self.assertEqual(keeping_with(BELT, WORTHS, 0, 1, False), (1, {"a": (None,), "b": (None,)}))
        for m in (8, 9, 60):
            self.assertEqual(share_of(WORTHS, keeping_with(BELT, WORTHS, m, 6, False)), (2, 1))

    def test_a_cell_for_one_kind_of_round(self):
        # One STEP may follow itself from the third round on alone; so by 2 only with 6 rounds for two CELLS.
        third = loop_of(("a", [("a", 3)]))
        self.assertEqual(keeping_with(third, {"a": 5}, 1, 3, False), (3, {"a": (0, None, None)}))
        self.assertIsNone(keeping_with(third, {"a": 5}, 1, 2, False))
        self.assertIsNone(keeping_with(third, {"a": 5}, 2, 2, False))
        self.assertEqual(share_of({"a": 5}, keeping_with(third, {"a": 5}, 2, 6, False)), (10, 3))
        self.assertEqual(share_of({"a": 5}, keeping_with(third, {"a": 5}, 3, 2, False)), (5, 1))

    def test_too_many(self):
        with self.assertRaises(TooMany) as caught:
            keeping_with(BELT, WORTHS, 5, 7, False)
        self.assertEqual(caught.exception.most, 12)
        self.assertIsNotNone(keeping_with(BELT, WORTHS, 5, 5, False))
        self.assertIsNone(keeping_with(BELT, WORTHS, 5, 6, False))
        # Ahead of all else: also where there would be one BY 1, or for no CELLS.
        for m in (0, 3, 8, 9):
            self.assertRaises(TooMany, keeping_with, BELT, WORTHS, m, 7, True)
            self.assertIsNotNone(keeping_with(BELT, WORTHS, 0, 6, True))
        worths = {name: 1 for name in "abcdefghij"}
        self.assertRaises(TooMany, keeping_with, TEN, worths, 3, 2, False)
        self.assertEqual(share_of(worths, keeping_with(TEN, worths, 3, 1, False)), (3, 1))
        self.assertEqual(keeping_with(ALONE, {}, 3, 1000, False), (1, {}))
        self.assertEqual(share_of({"a": 1}, keeping_with(PAIR, {"a": 1}, 5, 12, False)), (0, 1))
        self.assertRaises(TooMany, keeping_with, PAIR, {"a": 1}, 5, 13, False)

    def test_just_the_bound(self):
        # Three READ tasks in four rounds are twelve.
        three = loop_of(("a", [("a", 4)]), ("b", [("b", 2)]), ("c", [("c", 1)]))
        worths = {"a": 4, "b": 2, "c": 1}
        for m in range(8):
            keeping = keeping_with(three, worths, m, 4, False)
            self.assertEqual(stair(three, worths, m, False), (m, 1))
            self.assertEqual(share_of(worths, keeping), (m, 1))
            self.assertIs(is_best(three, worths, m, False, keeping, prices(three, worths, m, False)), True)
            self.assertTrue(goes_by(keeping, 4))
            self.assertRaises(TooMany, keeping_with, three, worths, m, 5, False)

    def test_nothing_leads_back(self):
        for n in (1, 6):
            keeping = keeping_with(OPEN, WORTHS, 60, n, True)
            self.assertEqual(share_of(WORTHS, keeping), (0, 1))
            self.assertEqual(cells_many(keeping), 0)

    def test_order_of_keys(self):
        turned = {"b": 1, "a": 1}
        for keeping in (keeping_with(BELT, turned, 5, 5, False), corner_keeping(BELT, turned, 8, False)):
            self.assertEqual(list(keeping[1]), ["a", "b"])
        self.assertEqual(keeping_with(BELT, turned, 5, 5, False), keeping_with(BELT, WORTHS, 5, 5, False))

    def test_no_smaller_keeping_is_left_out(self):
        # All KEEPINGS of a period of 2 or 4 with at most two CELLS: whatever goes BY 2 and is best is found.
        for loop in (loop_of(("a", [("a", 2)])), loop_of(("a", [("a", 1)])), loop_of(("a", []), ("b", [("a", 1)]), ("a", "b", 1))):
            for is_cut, m in itertools.product((False, True), (1, 2)):
                share = stair(loop, {"a": 1}, m, is_cut)
                told = keeping_with(loop, {"a": 1}, m, 2, is_cut)
                rows = itertools.product((None, *range(m)), repeat=4)
                best = [row for row in rows if is_keeping(loop, (4, {"a": row})) and goes_by((4, {"a": row}), 2)
                        and share_of({"a": 1}, (4, {"a": row})) == share and is_right(loop, (4, {"a": row}), is_cut)]
                if best:
                    self.assertIsNotNone(told)


class Best(unittest.TestCase):
    def test_papers_for_one_another(self):
        keeping = keeping_with(BELT, WORTHS, 5, 5, False)
        self.assertIs(is_best(BELT, WORTHS, 5, False, keeping, PAPER), True)
        self.assertIs(is_best(BELT, WORTHS, 6, False, keeping, PAPER), False)
        self.assertIs(is_best(BELT, WORTHS, 4, False, keeping, PAPER), False)
        self.assertIs(is_best(BELT, WORTHS, 5, True, keeping, PAPER), False)
        self.assertIs(is_best(BELT, WORTHS, 5, False, longer(keeping, 2), PAPER), True)
        self.assertIs(is_best(BELT, WORTHS, 5, False, corner_keeping(BELT, WORTHS, 3, False), PAPER), False)
        self.assertIs(is_best(BELT, {"a": 1, "b": 0}, 5, False, keeping, PAPER), False)

    def test_more_cells_than_there_are(self):
        keeping = corner_keeping(BELT, WORTHS, 8, False)
        for m, right in ((7, False), (8, True), (9, True), (60, True)):
            self.assertIs(is_best(BELT, WORTHS, m, False, keeping, prices(BELT, WORTHS, m, False)), right)
        # As great a SHARE, but a CELL too much.
        more = keeping_of_rings(BELT, ((6, (("a", 0),)), (3, (("b", 0),))))
        self.assertIs(is_best(BELT, WORTHS, 8, False, more, prices(BELT, WORTHS, 8, False)), False)
        self.assertIs(is_best(BELT, WORTHS, 9, False, more, prices(BELT, WORTHS, 9, False)), True)

    def test_any_values(self):
        keeping = (3, {"a": (None,) * 3, "b": (0, None, None)})
        paper = prices(BELT, WORTHS, 1, False)
        self.assertIs(is_best(BELT, WORTHS, 1, False, keeping, paper), True)
        alike = 0
        for thing in [*ANY, *mangled(keeping)]:
            told = is_best(BELT, WORTHS, 1, False, thing, paper)
            right = is_keeping(BELT, thing) and cells_many(thing) <= 1 and is_right(BELT, thing, False) \
                and share_of(WORTHS, thing) == (1, 3)
            check_truth(self, told, right, thing)
            alike += right
        self.assertGreaterEqual(alike, 1)
        for thing in [*ANY, *mangled(paper)]:
            right = are_prices(BELT, WORTHS, False, thing) and price_sum(thing, 1) == (1, 3)
            check_truth(self, is_best(BELT, WORTHS, 1, False, keeping, thing), right, thing)
            self.assertIs(is_best(BELT, WORTHS, 1, False, thing, thing), False)
        # As little as STAIR, but no PRICES.
        self.assertIs(is_best(BELT, WORTHS, 1, False, keeping, ((0, 1), {"a": (1, 3), "b": (0, 1)}, paper[2])), False)
        for thing in ANY:
            for other in ANY:
                self.assertIs(is_best(PAIR, {"a": 1}, 2, True, thing, other), False)

    def test_no_read_task(self):
        self.assertIs(is_best(ALONE, {}, 0, True, (7, {}), ((0, 1), {}, {})), True)
        self.assertIs(is_best(ALONE, {}, 1, True, (7, {}), ((1, 1), {}, {})), False)
        self.assertIs(is_best(ALONE, {}, 0, True, (7, {}), ((1, 1), {}, {})), True)

    def test_a_long_period(self):
        primes = loop_of(("a", [("a", 7)]), ("b", [("b", 8)]), ("c", [("c", 5)]))
        worths = {"a": 1, "b": 2, "c": 3}
        keeping = corner_keeping(primes, worths, 20, False)
        self.assertEqual(keeping[0], 280)
        self.assertIs(is_best(primes, worths, 20, False, keeping, prices(primes, worths, 20, False)), True)


if __name__ == "__main__":
    unittest.main()
