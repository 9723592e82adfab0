"""[33] and [9]: which WAITS say something, and LOOPS with the same RUNS."""

import unittest

from slow import Slow
from support import ALONE, BELT, PAIR, check_truth, check_unchanged, loop_of, random_live_loop, rng_of, slow_sums, window
from unwaited.arcs import arcs_of
from unwaited.covers import covers, least_waits, needless_waits, parting_run, runs_within, same_runs, struck, with_waits
from unwaited.errors import Nothing
from unwaited.forms import is_live_loop, is_loop
from unwaited.runs import is_run

ROW = loop_of(("a", []), ("b", [("a", 0)]), ("c", [("b", 0)]), ("b", "a", 0), ("c", "a", 0), ("a", "c", 2))


def covers_as_said(slow):
    """The ARCS (a, b, d) between whose STEPS nothing comes: no STEP is behind (a, i) and BEFORE (b, i + d)."""
    found = []
    for a, b, d in sorted(slow.arcs):
        between = [step for step in slow.before((b, 20 + d)) if (a, 20) in slow.before(step)]
        if not between:
            found.append((a, b, d))
    return tuple(found)


def needless_as_said(slow):
    told = covers_as_said(slow)
    reads = {(earlier, name, d) for name in slow.names for earlier, d in slow.reads[name]}
    return tuple(wait for wait in slow.loop[1] if (wait[1], wait[0], wait[2]) not in told
                 or (wait[1], wait[0], wait[2]) in reads)


def all_runs_of(slow, rounds, most):
    return {tuple(step for step, _ in items) for items in slow.all_runs(window(slow.loop, rounds), most, False)}


def random_waits(rng, loop, many):
    """The LOOP with other WAITS, LIVE."""
    names = [task[0] for task in loop[0]]
    while True:
        waits = tuple(sorted({(rng.choice(names), rng.choice(names), rng.randrange(3)) for _ in range(many)}))
        if is_live_loop((loop[0], waits)):
            return (loop[0], waits)


class Covers(unittest.TestCase):
    def test_as_said(self):
        rng = rng_of(331)
        needless = 0
        for _ in range(300):
            slow = Slow(random_live_loop(rng, 4, 2, 8))
            loop = slow.loop
            self.assertEqual(check_unchanged(self, covers, loop), covers_as_said(slow))
            said = needless_as_said(slow)
            self.assertEqual(check_unchanged(self, needless_waits, loop), said)
            left = tuple(wait for wait in loop[1] if wait not in said)
            self.assertEqual(check_unchanged(self, least_waits, loop), left)
            self.assertEqual(check_unchanged(self, struck, loop), (loop[0], left))
            needless += len(said) > 1
        self.assertGreater(needless, 60)

    def test_what_a_read_says_too(self):
        self.assertEqual(covers(ROW), (("a", "b", 0), ("b", "c", 0), ("c", "a", 2)))
        self.assertEqual(needless_waits(ROW), (("b", "a", 0), ("c", "a", 0)))
        self.assertEqual(least_waits(ROW), (("a", "c", 2),))
        self.assertEqual([covers(ALONE), needless_waits(ALONE), least_waits(ALONE), struck(ALONE)], [(), (), (), ALONE])
        self.assertEqual(covers(PAIR), (("a", "a", 1), ("a", "b", 0)))

    def test_what_follows_from_itself(self):
        # (a, a, 2) follows from (a, a, 1) twice; (a, a, 3) from both.
        loop = loop_of(("a", []), ("a", "a", 1), ("a", "a", 2), ("a", "a", 3))
        self.assertEqual([covers(loop), needless_waits(loop)], [(("a", "a", 1),), (("a", "a", 2), ("a", "a", 3))])
        other = loop_of(("a", []), ("a", "a", 2), ("a", "a", 3), ("a", "a", 5), ("a", "a", 7))
        self.assertEqual(least_waits(other), (("a", "a", 2), ("a", "a", 3)))

    def test_with_waits(self):
        self.assertEqual(with_waits(ROW, ()), (ROW[0], ()))
        dead = with_waits(ROW, (("a", "c", 0),))
        self.assertEqual([is_loop(dead), is_live_loop(dead)], [True, False])
        self.assertEqual(with_waits(dead, ROW[1]), ROW)

    def test_covers_are_arcs_and_enough(self):
        # [9]: BEFORE is what follows from the COVERS.
        rng = rng_of(332)
        for _ in range(60):
            loop = random_live_loop(rng, 5, 3, 10)
            told = covers(loop)
            self.assertLessEqual(set(told), set(arcs_of(loop)))
            bare = (tuple((name, 0, ("round",)) for name, _, _ in loop[0]),
                    tuple(sorted((later, earlier, d) for earlier, later, d in told)))
            for name, _, _ in loop[0]:
                self.assertEqual(slow_sums(loop, name, 9), slow_sums(bare, name, 9))

    def test_all_needless_ones_together(self):
        # Not one RUN more without all of them; but one more without any other.
        rng = rng_of(333)
        cases = 0
        for _ in range(60):
            loop = random_live_loop(rng, 3, 2, 6)
            self.assertEqual(all_runs_of(Slow(loop), 4, 4), all_runs_of(Slow(struck(loop)), 4, 4))
            self.assertIs(same_runs(loop, struck(loop)), True)
            self.assertEqual(needless_waits(struck(loop)), ())
            self.assertEqual(struck(struck(loop)), struck(loop))
            for wait in least_waits(loop):
                free = with_waits(loop, tuple(other for other in loop[1] if other != wait))
                self.assertEqual([runs_within(loop, free), runs_within(free, loop), same_runs(loop, free)],
                                 [True, False, False])
                run = parting_run(free, loop)
                self.assertEqual([is_run(free, run), is_run(loop, run)], [True, False])
                cases += 1
        self.assertGreater(cases, 60)


class Runs(unittest.TestCase):
    def couples(self, number, many):
        rng = rng_of(number)
        for _ in range(many):
            one = random_live_loop(rng, 3, 2, 5)
            kind = rng.randrange(4)
            if kind == 0:
                yield one, struck(one)
            elif kind == 1:
                yield one, with_waits(one, tuple(wait for wait in one[1] if rng.random() < 0.5))
            else:
                yield one, random_waits(rng, one, rng.randint(0, 4))

    def test_as_said(self):
        told = {False: 0, True: 0}
        equal = 0
        for one, other in self.couples(334, 250):
            slow, others = Slow(one), Slow(other)
            lacking = [(b, d) for a, b, d in sorted(others.arcs) if (a, 0) not in slow.before((b, d))]
            check_truth(self, check_unchanged(self, runs_within, one, other), not lacking, (one, other))
            told[not lacking] += 1
            both = covers_as_said(slow) == covers_as_said(others)
            check_truth(self, check_unchanged(self, same_runs, one, other), both, (one, other))
            self.assertIs(both, runs_within(one, other) and runs_within(other, one))
            equal += both and one != other
            if lacking:
                run = check_unchanged(self, parting_run, one, other)
                self.assertEqual([is_run(one, run), is_run(other, run)], [True, False])
                self.assertEqual(len(run), min(len(slow.before(step)) + 1 for step in lacking))
            else:
                self.assertRaises(Nothing, parting_run, one, other)
        self.assertGreater(min(told.values()), 50)
        self.assertGreater(equal, 20)

    def test_by_all_runs_of_few_steps(self):
        lengths = set()
        for one, other in self.couples(335, 80):
            ours, theirs = all_runs_of(Slow(one), 3, 4), all_runs_of(Slow(other), 3, 4)
            parting = sorted(len(run) for run in ours - theirs)
            if runs_within(one, other):
                self.assertEqual(parting, [])
            elif parting:
                self.assertEqual(len(parting_run(one, other)), parting[0])
                lengths.add(parting[0])
            else:
                self.assertGreater(len(parting_run(one, other)), 2)
        self.assertLessEqual({1, 2}, lengths)

    def test_one_step_and_many(self):
        free = with_waits(ROW, ())
        self.assertEqual(parting_run(free, ROW), (("a", 2),))
        slow_one = loop_of(("a", [("a", 1)]), ("b", [("a", 0)]), ("c", []))
        late = with_waits(slow_one, (("b", "c", 3),))
        self.assertEqual(parting_run(slow_one, late), (("a", 0), ("a", 1), ("a", 2), ("a", 3), ("b", 3)))
        self.assertRaises(Nothing, parting_run, late, slow_one)
        self.assertRaises(Nothing, parting_run, BELT, BELT)

    def test_other_bodies(self):
        # The same names, but other reads: only what is BEFORE what tells.
        one = loop_of(("a", []), ("b", [("a", 1)]))
        other = loop_of(("a", []), ("b", []), ("b", "a", 1))
        self.assertEqual([same_runs(one, other), runs_within(one, other), runs_within(other, one)], [True] * 3)
        self.assertEqual([needless_waits(with_waits(one, other[1])), needless_waits(other)], [(("b", "a", 1),), ()])


if __name__ == "__main__":
    unittest.main()
