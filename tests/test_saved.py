"""[34]: what a WAIT more saves in CELLS."""

import itertools
import unittest

from slow import Slow
from support import ALONE, BELT, PAIR, check_unchanged, loop_of, random_live_loop, rng_of
from unwaited.arcs import dead_ring
from unwaited.errors import Dead, Nothing, TooMany
from unwaited.forms import is_live_loop
from unwaited.matchings import fewest_cells
from unwaited.saved import best_wait, cells_with, fewest_waits, loop_with, savings

CHAIN = loop_of(("a", []), ("b", [("a", 0)]), ("c", [("b", 0)]), ("a", "c", 2))
GREAT = 10 ** 9


def more(loop, *waits):
    return (loop[0], tuple(sorted({*loop[1], *waits})))


def cells(loop):
    """The fewest CELLS, by all MATCHINGS; 10 ** 9 if there are none."""
    slow = Slow(loop)
    whole = [told for matching, told in slow.matchings(False, 40) if len(matching) == len(slow.read_names)]
    return min(whole, default=GREAT)


def none_for_great(many):
    return None if many == GREAT else many


def savings_as_said(loop, most):
    names = [task[0] for task in loop[0]]
    found = {}
    for wait in itertools.product(names, names, range(most + 1)):
        if wait not in loop[1] and is_live_loop(more(loop, wait)):
            found[wait] = none_for_great(cells(more(loop, wait)))
    return found


class Loops(unittest.TestCase):
    def test_loop_with(self):
        rng = rng_of(341)
        dead = 0
        for _ in range(300):
            loop = random_live_loop(rng, 4, 2, 4)
            names = [task[0] for task in loop[0]]
            wait = (rng.choice(names), rng.choice(names), rng.randrange(3))
            ring = dead_ring(more(loop, wait))
            if ring is None:
                self.assertEqual(check_unchanged(self, loop_with, loop, wait), more(loop, wait))
                many = check_unchanged(self, cells_with, loop, wait)
                self.assertEqual(many, fewest_cells(more(loop, wait), False))
                # A WAIT more takes RUNS away: never more CELLS.
                had = fewest_cells(loop, False)
                self.assertTrue(had is None or many <= had)
            else:
                for call in (loop_with, cells_with):
                    with self.assertRaises(Dead) as caught:
                        call(loop, wait)
                    self.assertEqual(caught.exception.ring, ring)
                dead += 1
        self.assertGreater(dead, 30)

    def test_a_wait_that_is_there(self):
        self.assertEqual(loop_with(CHAIN, ("a", "c", 2)), CHAIN)
        self.assertEqual(cells_with(CHAIN, ("a", "c", 2)), fewest_cells(CHAIN, False))

    def test_the_least_ring(self):
        with self.assertRaises(Dead) as caught:
            loop_with(CHAIN, ("a", "c", 0))
        self.assertEqual(caught.exception.ring, (("a", "b", 0), ("b", "c", 0), ("c", "a", 0)))
        with self.assertRaises(Dead) as caught:
            cells_with(CHAIN, ("b", "b", 0))
        self.assertEqual(caught.exception.ring, (("b", "b", 0),))
        self.assertEqual([cells_with(CHAIN, ("a", "b", 5)), cells_with(CHAIN, ("a", "c", 1)), cells_with(PAIR, ("a", "b", 1))],
                         [2, 1, 1])
        self.assertIsNone(cells_with(PAIR, ("b", "b", 1)))


class Savings(unittest.TestCase):
    def test_as_said(self):
        rng = rng_of(342)
        nothing = 0
        for _ in range(40):
            loop = random_live_loop(rng, 3, 2, 4)
            most = rng.randint(0, 3)
            told = check_unchanged(self, savings, loop, most)
            self.assertEqual(told, savings_as_said(loop, most))
            self.assertEqual(list(told), sorted(told))
            had = none_for_great(cells(loop))
            fewer = [many for many in told.values() if many is not None and (had is None or many < had)]
            if fewer:
                best = check_unchanged(self, best_wait, loop, most)
                self.assertEqual(best, min(wait for wait in told if told[wait] == min(fewer)))
            else:
                self.assertRaises(Nothing, best_wait, loop, most)
                nothing += 1
        self.assertTrue(3 < nothing < 37)

    def test_most_0_and_12(self):
        self.assertEqual(savings(PAIR, 0), {("b", "a", 0): None})
        self.assertRaises(Nothing, best_wait, PAIR, 0)
        told = savings(PAIR, 12)
        self.assertEqual(len(told), 2 * 2 * 13 - 3)
        self.assertEqual([told["a", "b", d] for d in range(1, 13)], list(range(1, 13)))
        self.assertEqual(best_wait(PAIR, 12), ("a", "b", 1))
        self.assertEqual(savings(ALONE, 1), {("a", "a", 1): 0})
        for most in (0, 3, 12):
            self.assertRaises(Nothing, best_wait, ALONE, most)

    def test_nothing_is_saved(self):
        tight = loop_of(("a", [("b", 1)]), ("b", [("a", 0)]))
        self.assertEqual(fewest_cells(tight, False), 1)
        self.assertRaises(Nothing, best_wait, tight, 4)
        self.assertRaises(Nothing, fewest_waits, tight, 0, 1)

    def test_best_waits(self):
        # Fewer than some; fewer than none, the first one found not being the best.
        self.assertEqual([best_wait(CHAIN, 1), cells_with(CHAIN, best_wait(CHAIN, 1))], [("a", "c", 1), 1])
        self.assertEqual(best_wait(BELT, 3), min(savings(BELT, 3), key=lambda wait: (cells_with(BELT, wait), wait)))
        late = loop_of(("a", []), ("b", []), ("z", [("a", 2)]), ("b", "z", 1))
        told = savings(late, 2)
        self.assertEqual([told["a", "b", 0], told["a", "z", 0], best_wait(late, 2)], [3, 2, ("a", "z", 0)])

    def test_ten_tasks(self):
        rng = rng_of(343)
        while True:
            loop = random_live_loop(rng, 10, 4, 14)
            if len(loop[0]) == 10 and fewest_cells(loop, False) is not None:
                break
        told = savings(loop, 12)
        self.assertGreater(len(told), 1000)
        for wait in rng.sample(sorted(told), 40):
            self.assertEqual(told[wait], cells_with(loop, wait))


class Fewest(unittest.TestCase):
    def as_said(self, loop, m, most):
        """The least tuple of WAITS, or the class of the error."""
        if cells(loop) <= m:
            return ()
        told = savings_as_said(loop, most)
        one = [(wait,) for wait, many in told.items() if many is not None and many <= m]
        if one:
            return min(one)
        if len(told) > 24:
            return TooMany
        two = [couple for couple in itertools.combinations(sorted(told), 2) if is_live_loop(more(loop, *couple))
               and cells(more(loop, *couple)) <= m]
        return min(two, default=Nothing)

    def test_as_said(self):
        rng = rng_of(344)
        kinds = {}
        for _ in range(60):
            loop = random_live_loop(rng, 3, 2, 3)
            for m, most in ((rng.randint(0, 2), 1), (rng.randint(0, 3), rng.randint(0, 2))):
                said = self.as_said(loop, m, most)
                if isinstance(said, tuple):
                    self.assertEqual(check_unchanged(self, fewest_waits, loop, m, most), said, (loop, m, most))
                    kinds[len(said)] = kinds.get(len(said), 0) + 1
                else:
                    self.assertRaises(said, fewest_waits, loop, m, most)
                    kinds[said] = kinds.get(said, 0) + 1
        self.assertGreater(min(kinds.get(kind, 0) for kind in (0, 1, Nothing)), 5, kinds)
        self.assertGreater(kinds.get(2, 0), 0, kinds)

    def test_none_one_and_two(self):
        two = loop_of(("a", []), ("b", [("a", 0)]), ("c", []), ("d", [("c", 0)]))
        self.assertEqual(fewest_waits(CHAIN, 9, 3), ())
        self.assertEqual(fewest_waits(PAIR, 1, 1), (("a", "b", 1),))
        self.assertEqual(fewest_waits(PAIR, 2, 2), (("a", "b", 1),))
        # Without a WAIT for each of a and c there is no number of CELLS.
        with self.assertRaises(TooMany) as caught:
            fewest_waits(two, 2, 1)
        self.assertEqual(caught.exception.most, 24)
        fewer = loop_of(("a", []), ("b", [("a", 0)]), ("c", [("a", 0)]))
        self.assertEqual(len(savings(fewer, 1)), 13)
        self.assertEqual(fewest_waits(fewer, 1, 1), (("a", "b", 1), ("a", "c", 1)))
        # Without cuts: each value of a may stand where its last reader, a itself, reads it.
        own = loop_of(("a", [("a", 1)]), ("b", [("a", 0)]), ("c", [("a", 0)]))
        self.assertEqual(fewest_waits(own, 1, 1), (("a", "b", 1), ("a", "c", 1)))
        # One is enough here, though there are more than 24.
        self.assertEqual(fewest_waits(loop_of(("a", []), ("b", [("a", 0)]), ("c", [])), 1, 8), (("a", "b", 1),))

    def test_too_many_ahead_of_nothing(self):
        for waits, many, error in (((("b", "b", 1),), 25, TooMany), ((("b", "a", 3), ("b", "b", 1)), 24, Nothing)):
            loop = loop_of(("a", []), ("b", [("a", 1)]), *waits)
            self.assertEqual(len(savings(loop, 6)), many)
            self.assertRaises(error, fewest_waits, loop, 0, 6)
            self.assertEqual(fewest_waits(loop, 1, 6), (("a", "b", 0),))
        three = loop_of(("a", []), ("b", [("a", 1)]), ("c", []))
        self.assertEqual(len(savings(three, 2)), 24)
        self.assertRaises(Nothing, fewest_waits, three, 0, 2)

    def test_two_that_are_not_live_together(self):
        # (a, b, 0) and (b, a, 0) both stand in savings, but not together.
        free = loop_of(("a", [("a", 2)]), ("b", [("b", 2)]))
        self.assertLessEqual({("a", "b", 0), ("b", "a", 0)}, set(savings(free, 1)))
        for m in range(5):
            said = self.as_said(free, m, 1)
            if isinstance(said, tuple):
                self.assertEqual(fewest_waits(free, m, 1), said)
            else:
                self.assertRaises(said, fewest_waits, free, m, 1)

    def test_belt(self):
        for m in range(9):
            said = self.as_said(BELT, m, 0)
            if isinstance(said, tuple):
                self.assertEqual(fewest_waits(BELT, m, 0), said)
            else:
                self.assertRaises(said, fewest_waits, BELT, m, 0)


if __name__ == "__main__":
    unittest.main()
