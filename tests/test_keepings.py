"""[23]: KEEPINGS, alike ones, and what is found in their CELLS."""

import itertools
import unittest

from slow import Slow, random_keeping
from support import ALONE, BELT, PAIR, check_unchanged, loop_of, random_live_loop, rng_of, same
from unwaited.forms import is_keeping
from unwaited.keepings import are_alike, cell_of, cells_many, first_lost, found, kept_steps, longer, numbered, shortest
from unwaited.runs import order_by

HALF = (2, {"a": (1, None), "b": (1, None), "c": (None, 0)})


def are_alike_as_said(one, other, rounds):
    """[23] once more, of all STEPS with rounds below this number."""
    steps = [(name, at) for name in one[1] for at in range(rounds)]
    mine = {step: one[1][step[0]][step[1] % one[0]] for step in steps}
    yours = {step: other[1][step[0]][step[1] % other[0]] for step in steps}
    if any((mine[step] is None) != (yours[step] is None) for step in steps):
        return False
    kept = [step for step in steps if mine[step] is not None]
    return all((mine[x] == mine[y]) == (yours[x] == yours[y]) for x, y in itertools.combinations(kept, 2))


def slow_found(loop, keeping, run):
    slow = Slow(loop)
    memory = {}
    told = []
    for name, at in run:
        finds = []
        for earlier, d in sorted(slow.reads[name]):
            if at - d >= 0 and slow.cell(keeping, (earlier, at - d)) is not None:
                finds.append((earlier, d, memory[slow.cell(keeping, (earlier, at - d))]))
        told.append(((name, at), tuple(finds)))
        if name in slow.readers and slow.cell(keeping, (name, at)) is not None:
            memory[slow.cell(keeping, (name, at))] = (name, at)
    return tuple(told)


class Keepings(unittest.TestCase):
    def test_cells(self):
        self.assertEqual([cell_of(HALF, ("b", at)) for at in (0, 1, 6, 10 ** 39)], [1, None, 1, 1])
        self.assertEqual(cell_of(HALF, ("c", 10 ** 39 + 1)), 0)
        self.assertEqual([cells_many(HALF), cells_many((1, {})), cells_many((2, {"a": (None, None)}))], [2, 0, 0])
        self.assertEqual(cells_many((3, {"b": (0, 2, None), "a": (1, 1, 1)})), 3)

    def test_kept_steps(self):
        self.assertEqual(kept_steps((2, {"c": (None, 0), "b": (1, None), "a": (1, None)})), (("a", 0), ("b", 0), ("c", 1)))
        self.assertEqual(kept_steps((2, {"b": (0, 0), "a": (0, 0)})), (("a", 0), ("b", 0), ("a", 1), ("b", 1)))
        self.assertEqual([kept_steps((5, {})), kept_steps((1, {"a": (None,)}))], [(), ()])

    def test_longer(self):
        self.assertEqual(longer(HALF, 1), HALF)
        self.assertEqual(longer((1, {"b": (None,), "a": (0,)}), 3), (3, {"a": (0, 0, 0), "b": (None, None, None)}))
        self.assertEqual(longer((2, {}), 3), (6, {}))

    def test_shortest(self):
        self.assertEqual(shortest((4, {"b": (1, 0, 1, 0), "a": (None,) * 4})), (2, {"a": (None, None), "b": (1, 0)}))
        self.assertEqual(shortest((6, {"a": (0, 1, 0, 1, 0, 1), "b": (2, 2, 3, 2, 2, 3)}))[0], 6)
        self.assertEqual(shortest((3, {"a": (0, 1, 0)})), (3, {"a": (0, 1, 0)}))
        self.assertEqual([shortest((7, {})), shortest((12, {"a": (0,) * 12}))], [(1, {}), (1, {"a": (0,)})])
        self.assertEqual(shortest((4, {"a": (0, None, 0, 0)}))[0], 4)

    def test_numbered(self):
        self.assertEqual(numbered(HALF), (2, {"a": (0, None), "b": (0, None), "c": (None, 1)}))
        self.assertEqual(numbered((2, {"b": (3, 0), "a": (2, 1)})), (2, {"a": (0, 2), "b": (1, 3)}))
        self.assertEqual(numbered((2, {"a": (1, 1), "b": (None, None), "c": (0, 0)})),
                         (1, {"a": (0,), "b": (None,), "c": (1,)}))
        self.assertEqual(numbered((9, {})), (1, {}))

    def test_order_of_keys(self):
        for call in (lambda keeping: longer(keeping, 2), shortest, numbered):
            told = call((2, {"c": (0, 1), "a": (1, None), "b": (None, 0)}))
            self.assertEqual(list(told[1]), ["a", "b", "c"])

    def test_alike_by_chance(self):
        rng = rng_of(231)
        alike = 0
        for _ in range(400):
            names = "ab"[:rng.randint(1, 2)]
            one, other = (random_keeping(rng, names, 3, 2) for _ in range(2))
            if rng.random() < 0.3:
                swapped = {None: None, **dict(zip(range(3), rng.sample(range(3), 3)))}
                had = sorted({swapped[cell] for row in one[1].values() for cell in row} - {None})
                other = longer((one[0], {name: tuple(None if cell is None else had.index(swapped[cell]) for cell in row)
                                         for name, row in one[1].items()}), rng.randint(1, 3))
            rounds = one[0] * other[0] * 2
            right = are_alike_as_said(one, other, rounds)
            self.assertIs(are_alike(one, other), right)
            self.assertIs(same(numbered(one), numbered(other)), right)
            alike += right
        self.assertGreater(alike, 100)

    def test_alike_with_other_periods(self):
        one = (2, {"a": (0, 1)})
        self.assertIs(are_alike(one, (4, {"a": (1, 0, 1, 0)})), True)
        self.assertIs(are_alike(one, (4, {"a": (0, 1, 2, 3)})), False)
        self.assertIs(are_alike(one, (3, {"a": (0, 1, 0)})), False)
        self.assertIs(are_alike((1, {"a": (None,)}), (1, {"a": (0,)})), False)
        self.assertIs(are_alike((1, {}), (6, {})), True)

    def test_least_period_of_all_alike_ones(self):
        rng = rng_of(232)
        for _ in range(200):
            names = "abc"[:rng.randint(1, 3)]
            keeping = longer(random_keeping(rng, names, 3, 3), rng.randint(1, 3))
            told = check_unchanged(self, numbered, keeping)
            self.assertIs(are_alike_as_said(keeping, told, keeping[0] * 2), True)
            short = check_unchanged(self, shortest, keeping)
            self.assertEqual(told[0], short[0])
            for step in [(name, at) for name in names for at in range(12)]:
                self.assertEqual(cell_of(short, step), cell_of(keeping, step))
            for period in range(1, short[0]):
                self.assertTrue(any(cell_of(keeping, (name, at)) != cell_of(keeping, (name, at + period))
                                    for name in names for at in range(12)))
            firsts = []
            for at in range(told[0]):
                for name in names:
                    cell = told[1][name][at]
                    if cell is not None and cell not in firsts:
                        firsts.append(cell)
            self.assertEqual(firsts, list(range(len(firsts))))

    def test_found_by_chance(self):
        rng = rng_of(233)
        lost = 0
        for _ in range(150):
            loop = random_live_loop(rng, 4, 3, 3)
            keeping = random_keeping(rng, Slow(loop).read_names, 3, 3)
            self.assertIs(is_keeping(loop, keeping), True)
            run = order_by(loop, 4, [rng.randrange(9) for _ in range(16)])
            told = check_unchanged(self, found, loop, keeping, run)
            self.assertEqual(told, slow_found(loop, keeping, run))
            wrong = [place for place, (step, finds) in enumerate(told)
                     if any(there != (name, step[1] - d) for name, d, there in finds)]
            self.assertEqual(first_lost(loop, keeping, run), wrong[0] if wrong else None)
            lost += len(wrong) > 0
        self.assertGreater(lost, 20)

    def test_found(self):
        one = (1, {"a": (0,)})
        self.assertEqual(found(PAIR, one, (("a", 0), ("a", 1), ("b", 0))),
                         ((("a", 0), ()), (("a", 1), (("a", 1, ("a", 0)),)), (("b", 0), (("a", 0, ("a", 1)),))))
        self.assertEqual(first_lost(PAIR, one, (("a", 0), ("a", 1), ("b", 0))), 2)
        self.assertIsNone(first_lost(PAIR, one, (("a", 0), ("b", 0), ("a", 1), ("b", 1))))
        # It reads first, and writes then.
        self.assertIsNone(first_lost(PAIR, one, (("a", 0), ("a", 1))))
        self.assertEqual(found(PAIR, (1, {"a": (None,)}), (("a", 0), ("b", 0))), ((("a", 0), ()), (("b", 0), ())))
        self.assertEqual([found(ALONE, (1, {}), (("a", 3), ("a", 0))), found(PAIR, one, ())],
                         [((("a", 3), ()), (("a", 0), ())), ()])
        self.assertIsNone(first_lost(PAIR, one, ()))

    def test_a_read_that_stands_twice(self):
        twice = ((("a", 0, ("round",)), ("b", 0, ("two", "+", ("read", "a", 0), ("read", "a", 0)))), ())
        self.assertEqual(found(twice, (1, {"a": (0,)}), (("a", 0), ("b", 0)))[1], (("b", 0), (("a", 0, ("a", 0)),)))

    def test_what_is_returned_is_new(self):
        for call in (lambda: longer(HALF, 1), lambda: shortest(HALF), lambda: numbered(numbered(HALF))):
            call()[1].clear()
            self.assertEqual(len(HALF[1]), 3)
            self.assertEqual(len(call()[1]), 3)
        check_unchanged(self, longer, HALF, 2)
        self.assertEqual(list(loop_of(("a", [("a", 1)]))[0][0][:1]), ["a"])
        self.assertIs(is_keeping(BELT, longer((1, {"a": (0,), "b": (1,)}), 60)), True)


if __name__ == "__main__":
    unittest.main()
