"""[18]: PATHS, and what is BEFORE what."""

import unittest

from support import ALONE, ANY, BELT, PAIR, check_truth, check_unchanged, loop_of, mangled, random_live_loop, rng_of
from support import slow_arcs, slow_before, slow_paths, slow_sums
from unwaited.paths import is_before, is_path, path_with, steps_before, sum_of


def is_path_as_said(loop, one, other, thing):
    """[2] once more."""
    if type(thing) is not tuple:
        return False
    at = one
    for arc in thing:
        if type(arc) is not tuple or [type(item) for item in arc] != [str, str, int] or arc not in slow_arcs(loop):
            return False
        if arc[0] != at:
            return False
        at = arc[1]
    return at == other


class Paths(unittest.TestCase):
    def test_any_value(self):
        path = (("b", "c", 0), ("c", "a", 3), ("a", "a", 2))
        things = [*ANY, path, path[:1], path[1:], path[2:], path[::-1], path + path, path + (("a", "b", 0),) + path,
                  *mangled(path), (("a", "a", True),), (("a", "b", False),), (("a", "a", 3),)]
        for loop in (BELT, PAIR, ALONE):
            names = [task[0] for task in loop[0]]
            for one in names:
                for other in names:
                    for thing in things:
                        check_truth(self, is_path(loop, one, other, thing), is_path_as_said(loop, one, other, thing),
                                    (one, other, thing))
        self.assertIs(is_path(BELT, "b", "a", path), True)

    def test_true_is_no_number_of_an_arc(self):
        self.assertIs(is_path(PAIR, "a", "a", (("a", "a", 1),)), True)
        self.assertIs(is_path(PAIR, "a", "a", (("a", "a", True),)), False)
        self.assertIs(is_path(PAIR, "a", "b", (("a", "b", False),)), False)

    def test_sum(self):
        self.assertEqual(sum_of(()), 0)
        self.assertEqual(sum_of((("b", "c", 0), ("c", "a", 3), ("a", "a", 2))), 5)

    def test_path_with_by_chance(self):
        rng = rng_of(51)
        for _ in range(120):
            loop = random_live_loop(rng, 4, 2, 3)
            one, other = rng.choice(loop[0])[0], rng.choice(loop[0])[0]
            for number in (-1, 0, 1, 2, 4):
                path = check_unchanged(self, path_with, loop, one, other, number)
                if path is None:
                    self.assertNotIn((other, number), slow_sums(loop, one, max(number, 0)))
                else:
                    self.assertIs(is_path(loop, one, other, path), True)
                    self.assertEqual(sum_of(path), number)
                    if len(path) < 7:
                        paths = slow_paths(loop, one, other, number, len(path))
                        self.assertEqual(path, min(paths, key=lambda found: (len(found), found)))

    def test_path_with_edges(self):
        self.assertEqual(path_with(PAIR, "a", "a", 0), ())
        self.assertIsNone(path_with(PAIR, "b", "a", 0))
        self.assertIsNone(path_with(PAIR, "a", "b", -1))
        self.assertIsNone(path_with(PAIR, "a", "a", -5))
        self.assertEqual(path_with(PAIR, "a", "a", 2000), (("a", "a", 1),) * 2000)
        self.assertEqual(len(path_with(BELT, "a", "a", 2000)), 669)
        self.assertEqual(path_with(BELT, "a", "a", 1), None)
        loop = loop_of(("a", [("a", 3), ("a", 4)]), ("b", [("a", 1)]))
        self.assertEqual(path_with(loop, "a", "b", 8), (("a", "a", 3), ("a", "a", 4), ("a", "b", 1)))
        self.assertEqual(path_with(loop, "a", "a", 12), (("a", "a", 4),) * 3)
        self.assertIsNone(path_with(loop, "a", "a", 5))

    def test_least_of_equally_many(self):
        loop = loop_of(("a", []), ("b", [("a", 1)]), ("c", [("a", 0)]), ("d", [("b", 0), ("c", 1), ("a", 2)]))
        self.assertEqual(path_with(loop, "a", "d", 1), (("a", "b", 1), ("b", "d", 0)))
        self.assertEqual(path_with(loop, "a", "d", 2), (("a", "d", 2),))


class Before(unittest.TestCase):
    def test_by_chance(self):
        rng = rng_of(52)
        for _ in range(120):
            loop = random_live_loop(rng, 4, 3, 3)
            steps = [(name, at) for name, _, _ in loop[0] for at in range(7)]
            for other in rng.sample(steps, 3):
                before = slow_before(loop, other)
                self.assertEqual(check_unchanged(self, steps_before, loop, other), tuple(sorted(before)))
                for one in steps:
                    check_truth(self, is_before(loop, one, other), one in before, (loop, one, other))

    def test_edges(self):
        self.assertIs(is_before(PAIR, ("a", 0), ("a", 0)), False)
        self.assertIs(is_before(PAIR, ("a", 1), ("a", 0)), False)
        self.assertIs(is_before(PAIR, ("a", 0), ("b", 0)), True)
        self.assertIs(is_before(PAIR, ("b", 0), ("a", 0)), False)
        self.assertIs(is_before(PAIR, ("b", 0), ("b", 9)), False)
        self.assertIs(is_before(PAIR, ("b", 0), ("a", 9)), False)
        self.assertIs(is_before(ALONE, ("a", 0), ("a", 5)), False)
        self.assertEqual(steps_before(PAIR, ("a", 0)), ())
        self.assertEqual(steps_before(ALONE, ("a", 400)), ())

    def test_far_rounds(self):
        self.assertIs(is_before(BELT, ("b", 0), ("a", 10000)), True)
        self.assertIs(is_before(loop_of(("a", [("a", 7)])), ("a", 1), ("a", 9997)), True)
        self.assertIs(is_before(loop_of(("a", [("a", 7)])), ("a", 1), ("a", 9998)), False)
        self.assertIs(is_before(PAIR, ("b", 0), ("a", 10000)), False)
        self.assertIs(is_before(PAIR, ("a", 10000), ("b", 10000)), True)
        self.assertEqual(steps_before(PAIR, ("b", 400)), tuple(("a", at) for at in range(401)))

    def test_a_task_may_not_keep_the_order_of_its_rounds(self):
        loop = loop_of(("a", [("a", 2)]))
        self.assertEqual(steps_before(loop, ("a", 5)), (("a", 1), ("a", 3)))


if __name__ == "__main__":
    unittest.main()
