"""[22]: LOSING RUNS; and what [8] says of cuts."""

import itertools
import unittest

from slow import Slow
from support import ANY, BELT, PAIR, check_truth, check_unchanged, loop_of, mangled, random_live_loop, rng_of
from support import window
from unwaited.losing import is_losing_run, losing_length, losing_run
from unwaited.runs import is_cut_run, is_run


def is_losing_as_said(slow, one, other, is_cut, thing):
    """[22] once more, of a RUN or a CUT RUN."""
    items = thing if is_cut else tuple((step, True) for step in thing)
    if not items or items[-1][1] is not True:
        return False
    (name, at), _ = items[-1]
    for x, y in ((one, other), (other, one)):
        if (x[0], at - x[1]) in slow.reads[name] and (is_cut or y != (name, at)):
            last = max(place for place, item in enumerate(items) if item[0] == x)
            if any(item[0] == y for item in items[last + 1:-1]):
                return True
    return False


def least_losing(slow, one, other, is_cut, steps, most):
    """The least of the shortest LOSING RUNS among all RUNS of these STEPS with at most so many items; None if there
    is none."""
    best = None
    for items in slow.all_runs(steps, most, is_cut):
        if best is not None and len(items) > len(best):
            break
        thing = items if is_cut else tuple(step for step, _ in items)
        if is_losing_as_said(slow, one, other, is_cut, thing) and (best is None or thing < best):
            best = thing
    return best


def slow_length(slow, one, other, is_cut):
    """How many items [22] says that there are at least."""
    lengths = []
    for x, y in ((one, other), (other, one)):
        for name, d in slow.readers[x[0]]:
            reader = (name, x[1] + d)
            if y in slow.before(x) or reader in slow.before(y) or (reader == y and not is_cut):
                continue
            steps = slow.before(y) | slow.before(reader) | {y, reader}
            lengths.append(len(steps) + (reader == y))
    return min(lengths, default=None)


class Losing(unittest.TestCase):
    def test_lengths_by_chance(self):
        rng = rng_of(221)
        for _ in range(150):
            loop = random_live_loop(rng, 4, 3, 4)
            slow = Slow(loop)
            for _ in range(8 if slow.read_names else 0):
                one, other = ((rng.choice(slow.read_names), rng.randrange(6)) for _ in range(2))
                if one == other:
                    continue
                for is_cut in (False, True):
                    length = losing_length(loop, one, other, is_cut)
                    run = check_unchanged(self, losing_run, loop, one, other, is_cut)
                    self.assertEqual(length, slow_length(slow, one, other, is_cut))
                    self.assertEqual(length is not None, slow.clash(one, other, is_cut))
                    self.assertEqual(run, losing_run(loop, other, one, is_cut))
                    if length is None:
                        self.assertIsNone(run)
                    else:
                        self.assertEqual(len(run), length)
                        self.assertIs((is_cut_run if is_cut else is_run)(loop, run), True)
                        self.assertIs(is_losing_as_said(slow, one, other, is_cut, run), True)
                        self.assertIs(is_losing_run(loop, one, other, is_cut, run), True)
                        self.assertIs(is_losing_run(loop, one, other, not is_cut, run), False)

    def test_least_by_chance(self):
        rng = rng_of(222)
        lost = 0
        for _ in range(60):
            loop = random_live_loop(rng, 3, 2, 4)
            slow = Slow(loop)
            for _ in range(4 if slow.read_names else 0):
                one, other = ((rng.choice(slow.read_names), rng.randrange(2)) for _ in range(2))
                for is_cut in (False, True):
                    if one == other or not slow.clash(one, other, is_cut):
                        continue
                    length = slow_length(slow, one, other, is_cut)
                    if length <= (5 if is_cut else 7):
                        steps = sorted(window(loop, 4))
                        best = least_losing(slow, one, other, is_cut, steps, length)
                        self.assertEqual(losing_run(loop, one, other, is_cut), best)
                        lost += 1
        self.assertGreater(lost, 60)

    def test_the_least_of_the_shortest(self):
        # Either may be lost, by either reader, in as many items: the least one is told.
        both = loop_of(("a", []), ("b", [("a", 0), ("a", 1)]), ("c", [("a", 0)]))
        self.assertEqual(losing_run(both, ("a", 0), ("a", 1), False), (("a", 0), ("a", 1), ("b", 0)))
        self.assertEqual(losing_run(both, ("a", 1), ("a", 0), False), (("a", 0), ("a", 1), ("b", 0)))
        free = loop_of(("a", []), ("b", []), ("c", [("a", 0), ("b", 0)]))
        self.assertEqual(losing_length(free, ("a", 5), ("b", 5), False), 3)
        self.assertEqual(losing_run(free, ("b", 5), ("a", 5), False), (("a", 5), ("b", 5), ("c", 5)))
        self.assertEqual(losing_run(free, ("b", 5), ("a", 5), True), ((("a", 5), True), (("b", 5), True), (("c", 5), True)))

    def test_cut_off_ahead_of_itself(self):
        own = loop_of(("a", [("a", 1)]))
        self.assertIsNone(losing_run(own, ("a", 0), ("a", 1), False))
        self.assertEqual(losing_run(own, ("a", 0), ("a", 1), True),
                         ((("a", 0), True), (("a", 1), False), (("a", 1), True)))
        self.assertEqual(losing_length(own, ("a", 1), ("a", 0), True), 3)
        self.assertIsNone(losing_run(own, ("a", 0), ("a", 2), True))
        self.assertIsNone(losing_length(own, ("a", 2), ("a", 0), True))
        run = ((("a", 0), True), (("b", 0), True), (("c", 0), True), (("a", 3), False))
        self.assertIs(is_losing_run(BELT, ("a", 0), ("a", 3), True, run), False)

    def test_cut_off_where_nothing_needs_it(self):
        self.assertEqual(losing_run(PAIR, ("a", 0), ("a", 1), True),
                         ((("a", 0), True), (("a", 1), False), (("a", 1), True)))
        free = loop_of(("a", []), ("b", [("a", 0)]), ("c", [("b", 0)]))
        self.assertEqual(losing_run(free, ("a", 0), ("a", 1), True),
                         ((("a", 0), True), (("a", 1), False), (("b", 0), True)))
        # What is cut off must have all that is BEFORE it ahead of it; and here it is BEFORE the reader.
        self.assertEqual(losing_run(loop_of(("a", []), ("b", [("a", 0)]), ("c", [("a", 0), ("b", 1)])),
                                    ("a", 1), ("b", 0), True),
                         ((("a", 0), True), (("a", 1), True), (("b", 0), False), (("b", 1), True)))

    def test_far_rounds(self):
        self.assertEqual(losing_length(PAIR, ("a", 99), ("a", 100), False), 102)
        run = losing_run(BELT, ("b", 100), ("b", 97), True)
        self.assertIs(is_losing_run(BELT, ("b", 97), ("b", 100), True, run), True)
        self.assertEqual(len(run), slow_length(Slow(BELT), ("b", 100), ("b", 97), True))

    def test_every_row_of_few_items(self):
        loop = loop_of(("a", []), ("b", [("a", 0), ("b", 1)]))
        slow = Slow(loop)
        for is_cut in (False, True):
            for items in slow.all_runs(window(loop, 2), 5, is_cut):
                thing = items if is_cut else tuple(step for step, _ in items)
                for one, other in itertools.permutations(window(loop, 2), 2):
                    check_truth(self, is_losing_run(loop, one, other, is_cut, thing),
                                is_losing_as_said(slow, one, other, is_cut, thing), (one, other, is_cut, thing))

    def test_any_value(self):
        plain = (("a", 0), ("a", 1), ("b", 0))
        cut = ((("a", 0), True), (("a", 1), False), (("a", 1), True), (("b", 0), True))
        slow = Slow(BELT)
        things = [*ANY, plain, *mangled(plain), cut, *mangled(cut), (), cut[:3], cut[::-1], plain[::-1]]
        for is_cut in (False, True):
            for thing in things:
                right = (is_cut_run if is_cut else is_run)(BELT, thing) and \
                    is_losing_as_said(slow, ("a", 0), ("a", 1), is_cut, thing)
                check_truth(self, is_losing_run(BELT, ("a", 0), ("a", 1), is_cut, thing), right, (is_cut, thing))
        self.assertIs(is_losing_run(BELT, ("a", 0), ("a", 1), False, plain), True)
        self.assertIs(is_losing_run(BELT, ("a", 0), ("a", 1), True, cut), True)
        self.assertIs(is_losing_run(BELT, ("a", 0), ("a", 1), False, (("a", 0), ("a", True), ("b", 0))), False)
        self.assertIs(is_losing_run(BELT, ("a", 0), ("a", 1), True, ((("a", 0), 1), (("a", 1), True), (("b", 0), True))),
                      False)


if __name__ == "__main__":
    unittest.main()
