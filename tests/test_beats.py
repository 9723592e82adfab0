"""[20]: BEATS, PLANS and the PACE."""

import itertools
import unittest
from fractions import Fraction

from support import ALONE, ANY, BELT, PAIR, check_truth, check_unchanged, loop_of, mangled, many_tasks
from support import random_live_loop, rng_of, slow_arcs, slow_before, slow_sets, window
from unwaited.arcs import is_ring
from unwaited.beats import beat_of, beats_of, fewest_beats, is_pace_paper, is_plan, pace, pace_paper, pace_ring
from unwaited.beats import plan_by_heights
from unwaited.errors import TooMany

GREAT = 10 ** 40 - 1
FREE = many_tasks([(3, [])])


def slow_beat(loop, step):
    """The greatest number of ARCS of a PATH to a STEP, ARC by ARC back from it."""
    ends = {step}
    for many in itertools.count():
        ends = {(earlier, at - d) for name, at in ends for earlier, later, d in slow_arcs(loop)
                if later == name and d <= at}
        if not ends:
            return many


def slow_height(loop, step, rounds):
    ends = {step}
    for many in itertools.count():
        ends = {(later, at + d) for name, at in ends for earlier, later, d in slow_arcs(loop)
                if earlier == name and at + d < rounds}
        if not ends:
            return many


def is_plan_as_said(loop, rounds, workers, thing):
    """[20] once more."""
    if type(thing) is not tuple or not all(type(steps) is tuple and 0 < len(steps) <= workers for steps in thing):
        return False
    steps = [step for part in thing for step in part]
    for step in steps:
        if type(step) is not tuple or len(step) != 2 or type(step[0]) is not str or type(step[1]) is not int:
            return False
    if sorted(steps) != sorted(window(loop, rounds)) or any(list(part) != sorted(part) for part in thing):
        return False
    places = {step: place for place, part in enumerate(thing) for step in part}
    return all(places[earlier] < places[step] for step in steps for earlier in slow_before(loop, step))


def slow_plan(loop, rounds, workers):
    """The PLAN by heights, as [20] says it."""
    plan = []
    left = set(window(loop, rounds))
    while left:
        done = set(window(loop, rounds)) - left
        ready = [step for step in left if slow_before(loop, step) <= done]
        ready.sort(key=lambda step: (-slow_height(loop, step, rounds), step))
        plan.append(tuple(sorted(ready[:workers])))
        left -= set(plan[-1])
    return tuple(plan)


def slow_fewest(loop, rounds, workers):
    """The least length of a PLAN: all sets that can be done so far, beat by beat, some workers perhaps idle."""
    steps = window(loop, rounds)
    before = {step: slow_before(loop, step) for step in steps}
    layer = {frozenset()}
    for many in itertools.count():
        if frozenset(steps) in layer:
            return many
        farther = set()
        for done in layer:
            ready = [step for step in steps if step not in done and before[step] <= done]
            for size in range(min(workers, len(ready)) + 1):
                farther |= {done | set(more) for more in itertools.combinations(ready, size)}
        layer = farther


def slow_rings(loop, most):
    """All RINGS of at most so many ARCS."""
    begun = [(arc,) for arc in sorted(slow_arcs(loop))]
    for _ in range(most):
        yield from (path for path in begun if path[0][0] == path[-1][1])
        begun = [path + (arc,) for path in begun for arc in sorted(slow_arcs(loop)) if arc[0] == path[-1][1]]


def pace_of(ring):
    return Fraction(len(ring), sum(d for _, _, d in ring))


class Beats(unittest.TestCase):
    def test_beats_by_chance(self):
        rng = rng_of(201)
        for _ in range(60):
            loop = random_live_loop(rng, 4, 3, 4)
            for step in window(loop, 5):
                self.assertEqual(beat_of(loop, step), slow_beat(loop, step))
            for rounds in (0, 1, 4):
                plan = check_unchanged(self, beats_of, loop, rounds)
                places = {step: place for place, steps in enumerate(plan) for step in steps}
                self.assertEqual(places, {step: slow_beat(loop, step) for step in window(loop, rounds)})
                self.assertIs(is_plan_as_said(loop, rounds, 99, plan), True)

    def test_far_rounds(self):
        self.assertEqual(beat_of(PAIR, ("b", 10000)), 10001)
        self.assertEqual(beat_of(ALONE, ("a", 10000)), 0)
        self.assertEqual(beat_of(BELT, ("c", 9999)), 10001)

    def test_no_rounds(self):
        for loop in (BELT, PAIR, ALONE):
            self.assertEqual([beats_of(loop, 0), plan_by_heights(loop, 0, 2), fewest_beats(loop, 0, 1)], [(), (), 0])
            self.assertIs(is_plan(loop, 0, 1, ()), True)
            self.assertIs(is_plan(loop, 0, 1, ((),)), False)

    def test_any_value_as_plan(self):
        plan = ((("a", 0), ("a", 1)), (("b", 0), ("b", 1)), (("c", 0), ("c", 1)))
        self.assertIs(is_plan(BELT, 2, 2, plan), True)
        things = [*ANY, plan, *mangled(plan), plan[::-1], plan + plan, plan[:2], plan + ((),), plan + ((("a", 2),),),
                  ((("a", 1), ("a", 0)),) + plan[1:], ((("a", 0), ("a", True)),) + plan[1:], ((("a", GREAT),),),
                  (plan[0] + plan[1],) + plan[2:], beats_of(BELT, 2), plan_by_heights(BELT, 2, 1)]
        for loop in (BELT, FREE, ALONE):
            for rounds in (0, 1, 2, 3):
                for workers in (1, 2, 5, GREAT):
                    for thing in things:
                        check_truth(self, is_plan(loop, rounds, workers, thing),
                                    is_plan_as_said(loop, rounds, workers, thing), (rounds, workers, thing))

    def test_plans_that_are_one_by_a_little(self):
        self.assertIs(is_plan(PAIR, 2, 2, ((("a", 0),), (("a", 1), ("b", 0)), (("b", 1),))), True)
        self.assertIs(is_plan(PAIR, 2, 1, ((("a", 0),), (("a", 1), ("b", 0)), (("b", 1),))), False)
        self.assertIs(is_plan(PAIR, 2, 2, ((("a", 0),), (("b", 0), ("a", 1)), (("b", 1),))), False)
        self.assertIs(is_plan(PAIR, 2, 2, ((("a", 0),), (("a", 1), ("b", 1)), (("b", 0),))), False)
        self.assertIs(is_plan(PAIR, 2, 2, ((("a", 0),), (("a", 1), ("b", 0)))), False)
        self.assertIs(is_plan(PAIR, 1, 2, ((("a", 0),), (("a", 1), ("b", 0)), (("b", 1),))), False)
        # Far apart, but BEFORE by way of a third one that is late.
        row = loop_of(("a", []), ("b", [("a", 0)]), ("c", [("b", 0)]))
        self.assertIs(is_plan(row, 1, 1, ((("a", 0),), (("c", 0),), (("b", 0),))), False)

    def test_plans_by_chance(self):
        rng = rng_of(202)
        for _ in range(50):
            loop = random_live_loop(rng, 5, 2, 5)
            for rounds in (1, 3):
                for workers in (1, 2, 3, 99):
                    plan = check_unchanged(self, plan_by_heights, loop, rounds, workers)
                    self.assertEqual(plan, slow_plan(loop, rounds, workers))
                    self.assertIs(is_plan(loop, rounds, workers, plan), True)

    def test_fewest_by_chance(self):
        rng = rng_of(203)
        for _ in range(150):
            loop = random_live_loop(rng, 6, 2, 6)
            rounds = rng.randint(1, 2)
            if len(window(loop, rounds)) > 9:
                continue
            for workers in (1, 2, 3, 99):
                self.assertEqual(fewest_beats(loop, rounds, workers), slow_fewest(loop, rounds, workers))
            self.assertEqual(fewest_beats(loop, rounds, 1), len(window(loop, rounds)))
            self.assertEqual(fewest_beats(loop, rounds, 99), len(beats_of(loop, rounds)))

    def test_where_heights_are_not_enough(self):
        # Of those that are alike high the least come first; but of these others have more behind them.
        for waits in ("ba bc be de fe", "bc be da de fa fe", "ba bc bd be bf bg ca ce cg da dg fa fg",
                      "ce ed fa fb ge gf hb he"):
            names = sorted(set(waits) - {" "})
            loop = loop_of(*((name, []) for name in names), *((later, earlier, 0) for later, earlier in waits.split()))
            self.assertLess(fewest_beats(loop, 1, 2), len(plan_by_heights(loop, 1, 2)))
            self.assertEqual(fewest_beats(loop, 1, 2), slow_fewest(loop, 1, 2))
            self.assertEqual(plan_by_heights(loop, 1, 2), slow_plan(loop, 1, 2))

    def test_too_many_sets(self):
        right = many_tasks([(1, [(0, 0, 2)]), (1, [(0, 0, 2)]), (2, [(0, 1, 1), (1, 0, 2), (1, 1, 1)])])
        self.assertEqual(len(slow_sets(right, 7)), 20000)
        self.assertEqual([fewest_beats(right, 7, workers) for workers in (1, 4, 99)], [28, 7, 7])
        over = many_tasks([(3, [(0, 1, 0), (1, 0, 2), (1, 2, 3), (2, 1, 0)]),
                           (3, [(0, 0, 1), (0, 1, 2), (1, 1, 2), (1, 2, 0)])])
        self.assertEqual(len(slow_sets(over, 4)), 20001)
        for workers in (1, 2, 99):
            with self.assertRaises(TooMany) as caught:
                fewest_beats(over, 4, workers)
            self.assertEqual(caught.exception.most, 20000)
        self.assertRaises(TooMany, fewest_beats, many_tasks([(10, [])]), 40, 3)

    def test_great_windows(self):
        row = loop_of(*((name, [("abcdefghij"[at - 1], 0 if at else 1)]) for at, name in enumerate("abcdefghij")))
        self.assertEqual([fewest_beats(row, 40, workers) for workers in (1, 2, GREAT)], [400, 400, 400])
        self.assertEqual(len(plan_by_heights(many_tasks([(10, [])]), 40, 7)), 58)


class Pace(unittest.TestCase):
    def test_pace_by_chance(self):
        rng = rng_of(205)
        for _ in range(150):
            loop = random_live_loop(rng, 4, 3, 4)
            rings = list(slow_rings(loop, 4))
            if not rings:
                self.assertEqual([pace(loop), pace_ring(loop)], [(0, 1), None])
                continue
            best = max(pace_of(ring) for ring in rings)
            self.assertEqual(pace(loop), (best.numerator, best.denominator))
            _, ring = min((len(ring), ring) for ring in rings if pace_of(ring) == best)
            self.assertEqual(check_unchanged(self, pace_ring, loop), ring)

    def test_the_least_ring(self):
        twice = loop_of(("a", []), ("b", []), ("a", "b", 1), ("a", "b", 2), ("b", "a", 0), ("b", "a", 1))
        self.assertEqual(pace(twice), (2, 1))
        self.assertEqual(pace_ring(twice), (("a", "b", 0), ("b", "a", 1)))
        own = loop_of(("a", []), ("b", []), ("c", []), ("a", "b", 2), ("b", "a", 0), ("c", "c", 1))
        self.assertEqual(pace_ring(own), (("c", "c", 1),))
        # Three ARCS in two rounds are more than one in one.
        self.assertEqual(pace(loop_of(("a", []), ("b", []), ("c", []), ("c", "c", 1), ("b", "a", 0), ("c", "b", 1),
                                      ("a", "c", 1))), (3, 2))

    def test_papers_by_chance(self):
        rng = rng_of(206)
        for _ in range(100):
            loop = random_live_loop(rng, 4, 3, 4)
            ring, heights = check_unchanged(self, pace_paper, loop)
            self.assertEqual(ring, pace_ring(loop))
            self.assertEqual(list(heights), [task[0] for task in loop[0]])
            self.assertIs(is_pace_paper(loop, (ring, heights)), True)
            self.assertIs(self.is_paper_as_said(loop, ring, heights), True)
            for name in heights:
                for more in (-3, -2, -1, 1, 2, 10 ** 39):
                    other = {**heights, name: heights[name] + more}
                    check_truth(self, is_pace_paper(loop, (ring, other)), self.is_paper_as_said(loop, ring, other),
                                (loop, other))
            for other in list(slow_rings(loop, 3))[:20]:
                check_truth(self, is_pace_paper(loop, (other, heights)), self.is_paper_as_said(loop, other, heights),
                            (loop, other))
            if ring is not None:
                self.assertIs(is_pace_paper(loop, (None, heights)), False)
                self.assertIs(is_pace_paper(loop, (ring + ring, heights)), True)

    def is_paper_as_said(self, loop, ring, heights):
        if (ring is None) != (not list(slow_rings(loop, 4))):
            return False
        fraction = Fraction(0) if ring is None else pace_of(ring)
        num, den = fraction.numerator, fraction.denominator
        return all(heights[b] - heights[a] >= den - num * d for a, b, d in slow_arcs(loop))

    def test_any_value_as_paper(self):
        paper = (pace_ring(BELT), {"a": 0, "b": 1, "c": 2})
        self.assertIs(is_pace_paper(BELT, paper), True)
        self.assertIs(is_pace_paper(BELT, (paper[0], {"c": 2, "b": 1, "a": 0})), True)
        self.assertIs(is_pace_paper(BELT, (paper[0], {"a": False, "b": True, "c": 2})), False)
        self.assertIs(is_pace_paper(BELT, (paper[0][1:] + paper[0][:1], {"a": 0, "b": 1, "c": 2})), True)
        self.assertIs(is_pace_paper(ALONE, (None, {"a": GREAT})), True)
        for thing in [*ANY, *mangled(paper)]:
            self.assertIn(is_pace_paper(BELT, thing), (False, True))
            self.assertIs(is_pace_paper(PAIR, thing), False)
            right = type(thing) is tuple and len(thing) == 2 and type(thing[1]) is dict and set(thing[1]) == set("abc") \
                and all(type(height) is int for height in thing[1].values()) and is_ring(BELT, thing[0]) \
                and self.is_paper_as_said(BELT, *thing)
            check_truth(self, is_pace_paper(BELT, thing), right, thing)

    def test_what_the_pace_says(self):
        # The BEAT of (a, i) times den is at most num * i, and the height of a less the least height.
        rng = rng_of(207)
        for _ in range(60):
            loop = random_live_loop(rng, 4, 3, 4)
            num, den = pace(loop)
            _, heights = pace_paper(loop)
            for name, at in window(loop, 12):
                self.assertLessEqual(beat_of(loop, (name, at)) * den, num * at + heights[name] - min(heights.values()))

    def test_papers_are_new(self):
        paper = pace_paper(BELT)
        paper[1].clear()
        self.assertEqual(set(pace_paper(BELT)[1]), {"a", "b", "c"})


if __name__ == "__main__":
    unittest.main()
