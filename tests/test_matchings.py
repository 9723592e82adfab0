"""[25]: MATCHINGS and NUMBERS; the guarantee [6], and [8] of cuts."""

import itertools
import unittest

from slow import Slow, random_keeping
from support import ALONE, ANY, BELT, PAIR, check_truth, check_unchanged, loop_of, mangled, random_live_loop, rng_of
from unwaited.crowds import greatest_crowd, is_crowd
from unwaited.judged import is_right
from unwaited.keepings import cells_many
from unwaited.matchings import are_numbers, assigned, fewest_cells, is_matching, is_whole, least_matching
from unwaited.matchings import matching_cells, numbers
from unwaited.rings import cells_of_rings, keeping_of_rings, rings_of
from unwaited.turns import endless_tasks, shifts

OPEN = (BELT[0], ())
# One task that leads back, one that does not.
HALF = loop_of(("a", [("a", 1)]), ("b", []), ("c", [("b", 0)]))


def are_numbers_as_said(slow, is_cut, thing):
    """[25] once more."""
    if type(thing) is not tuple or len(thing) != 2:
        return False
    for part in thing:
        if type(part) is not dict or sorted(part, key=repr) != sorted(slow.read_names, key=repr):
            return False
        if not all(type(number) is int and number >= 0 for number in part.values()):
            return False
    begins, ends = thing
    return all(ends[name] >= begins[name] for name in begins) and \
        all(ends[b] - begins[a] <= s for (a, b), s in slow.shifts(is_cut).items())


def size_of(told):
    return sum(told[1].values()) - sum(told[0].values())


class Matchings(unittest.TestCase):
    def test_least_by_chance(self):
        rng = rng_of(251)
        finite = several = 0
        for _ in range(150):
            loop = random_live_loop(rng, 5, 2, 6)
            slow = Slow(loop)
            for is_cut in (False, True):
                whole = [(cells, [matching[name] for name in slow.read_names])
                         for matching, cells in slow.matchings(is_cut) if len(matching) == len(slow.read_names)]
                told = check_unchanged(self, least_matching, loop, is_cut)
                if not whole:
                    self.assertEqual([told, fewest_cells(loop, is_cut), numbers(loop, is_cut)], [None, None, None])
                    self.assertNotEqual(endless_tasks(loop), ())
                    continue
                cells, values = min(whole)
                self.assertEqual(told, dict(zip(slow.read_names, values)))
                self.assertEqual(list(told), slow.read_names)
                self.assertEqual([fewest_cells(loop, is_cut), matching_cells(loop, is_cut, told)], [cells, cells])
                self.assertEqual(endless_tasks(loop), ())
                finite += 1
                several += len([1 for other, _ in whole if other == cells]) > 1
        self.assertGreater(finite, 60)
        self.assertGreater(several, 10)

    def test_least_of_many(self):
        # Many MATCHINGS have as many CELLS: whichever letter is another one, the least of them is told.
        rng = rng_of(256)
        names = "abcde"
        for place in range(40):
            waits = [(one, other, rng.choice((1, 1, 1, 2))) for one in names for other in names]
            loop = loop_of(*((name, [(name, rng.choice((1, 2, 3)))]) for name in names),
                           *rng.sample(waits, rng.randint(18, 25)), *((name, "a", 3) for name in names),
                           *(("a", name, 3) for name in names))
            slow = Slow(loop)
            is_cut = place % 2 == 0
            cells, values = min((cells, list(matching.values())) for matching, cells in slow.matchings(is_cut, 12)
                                if len(matching) == len(names))
            self.assertEqual(list(least_matching(loop, is_cut).values()), values)
            self.assertEqual(fewest_cells(loop, is_cut), cells)

    def test_papers_for_one_another(self):
        # The fewest CELLS, the greatest CROWD and the SIZE of NUMBERS are equal; and RINGS keep all in so many.
        rng = rng_of(252)
        finite = 0
        for _ in range(120):
            loop = random_live_loop(rng, 6, 3, 9)
            for is_cut in (False, True):
                cells = fewest_cells(loop, is_cut)
                if cells is None:
                    self.assertIsNone(numbers(loop, is_cut))
                    continue
                told = check_unchanged(self, numbers, loop, is_cut)
                self.assertIs(are_numbers(loop, is_cut, told), True)
                self.assertIs(are_numbers_as_said(Slow(loop), is_cut, told), True)
                self.assertEqual([list(part) for part in told], [Slow(loop).read_names] * 2)
                crowd = greatest_crowd(loop, is_cut)
                self.assertIs(is_crowd(loop, is_cut, crowd), True)
                self.assertEqual([size_of(told), len(crowd)], [cells, cells])
                rings = rings_of(loop, least_matching(loop, is_cut), is_cut)
                self.assertEqual(cells_of_rings(rings), cells)
                keeping = keeping_of_rings(loop, rings)
                if keeping[0] < 500:
                    self.assertIs(is_right(loop, keeping, is_cut), True)
                    self.assertEqual(cells_many(keeping), cells)
                finite += cells > 0
        self.assertGreater(finite, 60)

    def test_no_right_keeping_has_fewer(self):
        rng = rng_of(253)
        right = 0
        for _ in range(400):
            loop = random_live_loop(rng, 3, 2, 5)
            names = Slow(loop).read_names
            keeping = random_keeping(rng, names, 2, 4, 0)
            for is_cut in (False, True):
                if names and is_right(loop, keeping, is_cut):
                    self.assertGreaterEqual(cells_many(keeping), fewest_cells(loop, is_cut))
                    right += 1
        self.assertGreater(right, 20)

    def test_all_arrangements(self):
        rng = rng_of(254)
        for _ in range(300):
            many = rng.randint(0, 5)
            costs = [[rng.choice((None, rng.randint(-9, 9), rng.randint(0, 2))) for _ in range(many)] for _ in range(many)]
            sums = [sum(costs[row][column] for row, column in enumerate(columns))
                    for columns in itertools.permutations(range(many))
                    if all(costs[row][column] is not None for row, column in enumerate(columns))]
            columns = check_unchanged(self, assigned, costs)
            if not sums:
                self.assertIsNone(columns)
            else:
                self.assertEqual(sorted(columns), list(range(many)))
                self.assertEqual(sum(costs[row][column] for row, column in enumerate(columns)), min(sums))

    def test_no_read_task(self):
        for is_cut in (False, True):
            self.assertEqual([least_matching(ALONE, is_cut), fewest_cells(ALONE, is_cut), numbers(ALONE, is_cut)],
                             [{}, 0, ({}, {})])
            self.assertEqual([matching_cells(ALONE, is_cut, {}), is_matching(ALONE, is_cut, {})], [0, True])
            self.assertIs(is_whole(ALONE, {}), True)
            self.assertIs(are_numbers(ALONE, is_cut, ({}, {})), True)
            self.assertIs(are_numbers(ALONE, is_cut, ({"a": 0}, {"a": 0})), False)

    def test_some_tasks_and_none(self):
        self.assertEqual([is_matching(BELT, False, thing) for thing in ({}, {"b": "b"}, {"a": "a"}, {"a": "b"})],
                         [True, True, True, False])
        self.assertEqual([matching_cells(BELT, False, thing) for thing in ({}, {"b": "b"}, {"a": "b", "b": "a"})],
                         [0, 3, 11])
        self.assertEqual([is_whole(BELT, thing) for thing in ({}, {"b": "b"}, {"b": "a", "a": "b"})], [False, False, True])
        self.assertEqual([is_matching(OPEN, False, thing) for thing in ({}, {"a": "a"}, {"a": "b", "b": "a"})],
                         [True, False, False])
        self.assertEqual([is_matching(HALF, False, thing) for thing in ({"a": "a"}, {"b": "b"}, {"a": "a", "b": "b"})],
                         [True, False, False])
        self.assertEqual([fewest_cells(HALF, False), fewest_cells(OPEN, True), fewest_cells(PAIR, True)], [None] * 3)

    def test_any_value_as_matching(self):
        matching = {"a": "b", "b": "a"}
        for thing in [*ANY, *mangled(matching), {"a": "a", "b": "b"}, {"c": "c"}, {"a": ("a",)}, {"a": {}}]:
            for loop in (BELT, OPEN, ALONE):
                told = shifts(loop, False)
                right = type(thing) is dict and set(thing) <= {a for a, _ in told} and \
                    all(type(value) is str for value in thing.values()) and \
                    sorted(thing) == sorted(thing.values()) and all(couple in told for couple in thing.items())
                check_truth(self, is_matching(loop, False, thing), right, thing)

    def test_numbers_that_are_such_by_a_little(self):
        told = ({"a": 0, "b": 2}, {"a": 5, "b": 5})
        self.assertIs(are_numbers(BELT, False, told), True)
        self.assertEqual(size_of(told), fewest_cells(BELT, False))
        slow = Slow(BELT)
        for part, name, more in itertools.product((0, 1), "ab", (-3, -2, -1, 1, 2, 3, 10 ** 39)):
            other = tuple({**one, name: one[name] + more} if at == part else one for at, one in enumerate(told))
            for is_cut in (False, True):
                check_truth(self, are_numbers(BELT, is_cut, other), are_numbers_as_said(slow, is_cut, other), other)
        rng = rng_of(255)
        for _ in range(60):
            loop = random_live_loop(rng, 4, 2, 5)
            slow = Slow(loop)
            for _ in range(20):
                begins = {name: rng.randint(0, 3) for name in slow.read_names}
                ends = {name: begins[name] + rng.randint(-1, 4) for name in slow.read_names}
                for is_cut in (False, True):
                    check_truth(self, are_numbers(loop, is_cut, (begins, ends)),
                                are_numbers_as_said(slow, is_cut, (begins, ends)), (loop, begins, ends))

    def test_any_value_as_numbers(self):
        told = ({"a": 0, "b": 2}, {"a": 5, "b": 5})
        slow = Slow(BELT)
        for thing in [*ANY, *mangled(told), ({"a": False, "b": 2}, told[1]), ({"b": 2, "a": 0}, told[1])]:
            check_truth(self, are_numbers(BELT, False, thing), are_numbers_as_said(slow, False, thing), thing)
        self.assertIs(are_numbers(BELT, False, ({"a": 0, "b": True}, {"a": 0, "b": 1})), False)
        # Where there is no WHOLE MATCHING there are NUMBERS, of any SIZE.
        self.assertIs(are_numbers(OPEN, False, ({"a": 0, "b": 0}, {"a": 10 ** 39, "b": 6})), True)
        self.assertIs(are_numbers(OPEN, False, ({"a": 0, "b": 0}, {"a": 10 ** 39, "b": 7})), False)

    def test_what_is_returned_is_new(self):
        told = numbers(BELT, False)
        told[0].clear()
        least_matching(BELT, False).clear()
        self.assertEqual([len(numbers(BELT, False)[0]), len(least_matching(BELT, False))], [2, 2])


if __name__ == "__main__":
    unittest.main()
