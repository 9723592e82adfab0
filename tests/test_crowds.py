"""[26]: CROWDS; what [6] and [8] say of them."""

import unittest

from slow import Slow
from support import ALONE, ANY, BELT, PAIR, check_truth, check_unchanged, loop_of, mangled, random_live_loop, rng_of
from support import window
from unwaited.crowds import crowd_clash, crowd_of, greatest_crowd, growing_crowd, is_crowd
from unwaited.matchings import are_numbers, fewest_cells
from unwaited.turns import endless_tasks

GREAT = 10 ** 40 - 1
OPEN = (BELT[0], ())


def is_crowd_as_said(slow, is_cut, thing):
    """[2] once more."""
    if type(thing) is not tuple:
        return False
    for step in thing:
        if type(step) is not tuple or [type(part) for part in step] != [str, int]:
            return False
        if step[0] not in slow.readers or step[1] < 0:
            return False
    return list(thing) == sorted(set(thing)) and \
        not any(one != other and slow.turn(one, other, is_cut) for one in thing for other in thing)


class Crowds(unittest.TestCase):
    def test_crowds_by_chance(self):
        rng = rng_of(261)
        told = 0
        for _ in range(120):
            loop = random_live_loop(rng, 4, 2, 4)
            slow = Slow(loop)
            steps = [step for step in window(loop, 6) if step[0] in slow.readers]
            for _ in range(20):
                thing = tuple(sorted(rng.sample(steps, min(len(steps), rng.randint(0, 4)))))
                for is_cut in (False, True):
                    right = is_crowd_as_said(slow, is_cut, thing)
                    check_truth(self, is_crowd(loop, is_cut, thing), right, thing)
                    clashes = [(one, other) for one in thing for other in thing
                               if one != other and slow.turn(one, other, is_cut)]
                    self.assertEqual(check_unchanged(self, crowd_clash, loop, is_cut, thing), min(clashes, default=None))
                    told += not right
        self.assertGreater(told, 100)

    def test_greatest_by_chance(self):
        rng = rng_of(262)
        for _ in range(80):
            loop = random_live_loop(rng, 5, 2, 6)
            slow = Slow(loop)
            for is_cut in (False, True):
                crowd = greatest_crowd(loop, is_cut)
                if crowd is None:
                    self.assertIsNone(fewest_cells(loop, is_cut))
                else:
                    self.assertEqual(len(crowd), fewest_cells(loop, is_cut))
                    if len(crowd) < 30:
                        self.assertIs(is_crowd_as_said(slow, is_cut, crowd), True)

    def test_no_greater_one(self):
        # All CROWDS of the STEPS of some rounds, one STEP more at a time.
        rng = rng_of(263)
        for _ in range(60):
            loop = random_live_loop(rng, 3, 2, 5)
            slow = Slow(loop)
            for is_cut in (False, True):
                most = fewest_cells(loop, is_cut)
                if most is None or most > 4:
                    continue
                steps = [step for step in window(loop, 5) if step[0] in slow.readers]
                layer = [()]
                for _ in range(most + 1):
                    layer = [crowd + (step,) for crowd in layer for step in steps
                             if (not crowd or crowd[-1] < step)
                             and all(slow.clash(step, other, is_cut) for other in crowd)]
                self.assertEqual(layer, [])

    def test_crowd_of(self):
        self.assertEqual(crowd_of({"a": 0, "b": 2}, {"b": 5, "a": 2}), (("a", 0), ("a", 1), ("b", 2), ("b", 3), ("b", 4)))
        self.assertEqual(crowd_of({"b": 7, "a": 9}, {"a": 10, "b": 7}), (("a", 9),))
        self.assertEqual(crowd_of({}, {}), ())
        self.assertEqual(check_unchanged(self, crowd_of, {"b": 7, "a": 9}, {"a": 10, "b": 8}), (("a", 9), ("b", 7)))

    def test_any_numbers_make_a_crowd(self):
        rng = rng_of(264)
        crowds = 0
        for _ in range(200):
            loop = random_live_loop(rng, 3, 2, 4)
            slow = Slow(loop)
            begins = {name: rng.randint(0, 3) for name in slow.read_names}
            ends = {name: begins[name] + rng.randint(0, 3) for name in slow.read_names}
            for is_cut in (False, True):
                if are_numbers(loop, is_cut, (begins, ends)):
                    crowd = crowd_of(begins, ends)
                    self.assertIs(is_crowd(loop, is_cut, crowd), True)
                    self.assertEqual(len(crowd), sum(ends.values()) - sum(begins.values()))
                    crowds += len(crowd) > 1
        self.assertGreater(crowds, 50)

    def test_growing(self):
        self.assertEqual(growing_crowd(OPEN, "b", 3), (("b", 0), ("b", 1), ("b", 2)))
        self.assertEqual(growing_crowd(OPEN, "a", 0), ())
        rng = rng_of(265)
        for _ in range(80):
            loop = random_live_loop(rng, 4, 2, 3)
            for name in endless_tasks(loop):
                for is_cut in (False, True):
                    self.assertIs(is_crowd(loop, is_cut, growing_crowd(loop, name, 40)), True)
                    self.assertIsNone(greatest_crowd(loop, is_cut))
                self.assertIs(is_crowd_as_said(Slow(loop), False, growing_crowd(loop, name, 9)), True)
        self.assertEqual(len(growing_crowd(PAIR, "a", 10000)), 10000)

    def test_no_read_task(self):
        for is_cut in (False, True):
            self.assertEqual(greatest_crowd(ALONE, is_cut), ())
            self.assertIs(is_crowd(ALONE, is_cut, ()), True)
            self.assertIs(is_crowd(ALONE, is_cut, (("a", 0),)), False)
            self.assertIsNone(crowd_clash(ALONE, is_cut, ()))

    def test_the_least_couple(self):
        self.assertEqual(crowd_clash(BELT, False, (("a", 0), ("a", 6), ("b", 1), ("b", 4))), (("a", 0), ("a", 6)))
        self.assertEqual(crowd_clash(BELT, False, (("a", 9), ("b", 0), ("b", 3))), (("b", 0), ("a", 9)))
        self.assertEqual(crowd_clash(BELT, False, (("a", 5), ("b", 1), ("b", 4))), (("b", 1), ("b", 4)))
        self.assertIsNone(crowd_clash(BELT, True, (("b", 1), ("b", 4))))

    def test_far_apart(self):
        self.assertIs(is_crowd(BELT, False, (("a", 0), ("a", GREAT))), False)
        self.assertIs(is_crowd(BELT, False, (("a", GREAT - 4), ("a", GREAT))), True)
        self.assertIs(is_crowd(BELT, False, (("a", GREAT - 5), ("a", GREAT))), False)
        self.assertIs(is_crowd(BELT, True, (("b", GREAT - 5), ("b", GREAT))), True)
        self.assertIs(is_crowd(OPEN, False, (("a", 0), ("a", GREAT), ("b", 5))), True)
        self.assertIs(is_crowd(OPEN, False, (("a", 0), ("a", GREAT), ("b", 6))), False)
        self.assertEqual(crowd_clash(BELT, True, (("a", 10000), ("b", 0))), (("b", 0), ("a", 10000)))
        # Each third round alone: so far apart, and yet no TURN.
        third = loop_of(("a", [("a", 3)]))
        self.assertIs(is_crowd(third, False, (("a", 0), ("a", 3 * (GREAT // 3) + 1))), True)
        self.assertIs(is_crowd(third, False, (("a", 0), ("a", 3 * (GREAT // 3)))), False)

    def test_many_steps(self):
        crowd = growing_crowd(OPEN, "a", 500)
        self.assertIs(is_crowd(OPEN, True, crowd), True)
        self.assertIs(is_crowd(OPEN, True, crowd + (("b", 505),)), False)

    def test_any_value(self):
        crowd = (("a", 0), ("a", 4), ("b", 4))
        self.assertIs(is_crowd(BELT, False, crowd), True)
        slow = Slow(BELT)
        for thing in [*ANY, *mangled(crowd), crowd[::-1], crowd + crowd[-1:], (("a", 0), ("c", 0)), (("a", 0), ("b", True))]:
            near = thing
            if type(thing) is tuple and all(type(step) is tuple and len(step) == 2 for step in thing):
                # The slow way does not go so far; from some round on all is as it is in round 50.
                near = tuple((name, 50 if at == 10 ** 39 else at) for name, at in thing)
            check_truth(self, is_crowd(BELT, False, thing), is_crowd_as_said(slow, False, near), thing)


if __name__ == "__main__":
    unittest.main()
