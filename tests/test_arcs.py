"""[16]: ARCS, RINGS, LOTS."""

import math
import unittest

from support import ALONE, ANY, BELT, PAIR, check_truth, check_unchanged, loop_of, mangled, random_loop, rng_of
from support import slow_arcs, slow_is_live, slow_reads, slow_sums
from unwaited.arcs import arcs_from, arcs_of, arcs_to, dead_ring, is_ring, lots_of, modulus_of, readers_of
from unwaited.errors import NoTask

GREAT = 10 ** 40 - 1


def is_ring_as_said(loop, thing):
    """[2] once more."""
    if type(thing) is not tuple or not thing:
        return False
    for arc in thing:
        if type(arc) is not tuple or [type(item) for item in arc] != [str, str, int] or arc not in slow_arcs(loop):
            return False
    return all(one[1] == other[0] for one, other in zip(thing, thing[1:] + thing[:1]))


def rings_of_sum_0(loop):
    """All RINGS with the SUM 0 that have the fewest ARCS."""
    arcs = [arc for arc in sorted(slow_arcs(loop)) if arc[2] == 0]
    paths = [(arc,) for arc in arcs]
    for _ in loop[0]:
        rings = [path for path in paths if path[0][0] == path[-1][1]]
        if rings:
            return rings
        paths = [path + (arc,) for path in paths for arc in arcs if arc[0] == path[-1][1]]
    return []


class Arcs(unittest.TestCase):
    def test_by_chance(self):
        rng = rng_of(31)
        for _ in range(200):
            loop = random_loop(rng, 5, 3, 5)
            arcs = check_unchanged(self, arcs_of, loop)
            self.assertEqual(arcs, tuple(sorted(slow_arcs(loop))))
            for name, _, _ in loop[0]:
                self.assertEqual(arcs_from(loop, name), tuple(arc for arc in arcs if arc[0] == name))
                self.assertEqual(arcs_to(loop, name), tuple(arc for arc in arcs if arc[1] == name))
                readers = {(later, d) for later, _, body in loop[0] for other, d in slow_reads(body) if other == name}
                self.assertEqual(check_unchanged(self, readers_of, loop, name), tuple(sorted(readers)))

    def test_equal_arcs_of_a_read_and_a_wait(self):
        loop = loop_of(("a", []), ("b", [("a", 2)]), ("b", "a", 2), ("b", "a", 1))
        self.assertEqual(arcs_of(loop), (("a", "b", 1), ("a", "b", 2)))
        self.assertEqual(arcs_from(loop, "a"), (("a", "b", 1), ("a", "b", 2)))
        self.assertEqual(readers_of(loop, "a"), (("b", 2),))

    def test_a_wait_is_turned(self):
        loop = loop_of(("a", []), ("b", []), ("a", "b", 3))
        self.assertEqual(arcs_of(loop), (("b", "a", 3),))
        self.assertEqual(readers_of(loop, "b"), ())
        self.assertEqual([arcs_from(loop, "a"), arcs_to(loop, "b"), arcs_of(ALONE)], [(), (), ()])

    def test_no_task(self):
        for call in (arcs_from, arcs_to, readers_of, modulus_of):
            for name in ("c", "", "x" * 50, "A b"):
                with self.assertRaises(NoTask) as caught:
                    call(PAIR, name)
                self.assertEqual(caught.exception.name, name)


class Rings(unittest.TestCase):
    def test_any_value(self):
        good = (("a", "b", 0), ("b", "c", 0), ("c", "a", 3), ("a", "a", 2))
        things = [*ANY, good, good[1:] + good[:1], good[:3], good[:2], good[3:], good * 3, *mangled(good), (),
                  (("a", "a", True),), (("a", "a", GREAT),), (["a", "a", 2],), [("a", "a", 2)]]
        for loop in (BELT, PAIR, ALONE):
            for thing in things:
                check_truth(self, is_ring(loop, thing), is_ring_as_said(loop, thing), thing)
        self.assertIs(is_ring(BELT, good), True)

    def test_true_is_no_number_of_an_arc(self):
        self.assertIs(is_ring(PAIR, (("a", "a", 1),)), True)
        self.assertIs(is_ring(PAIR, (("a", "a", True),)), False)
        dead = loop_of(("a", [("a", 0)]))
        self.assertIs(is_ring(dead, (("a", "a", 0),)), True)
        self.assertIs(is_ring(dead, (("a", "a", False),)), False)

    def test_dead_ring_by_chance(self):
        rng = rng_of(32)
        many = {True: 0, False: 0}
        for _ in range(500):
            loop = random_loop(rng, 6, 1, 7)
            ring = check_unchanged(self, dead_ring, loop)
            many[ring is None] += 1
            self.assertEqual(ring is None, slow_is_live(loop))
            self.assertEqual(ring, min(rings_of_sum_0(loop), default=None))
            if ring is not None:
                self.assertIs(is_ring(loop, ring), True)
        self.assertGreater(min(many.values()), 50)

    def test_dead_ring_edges(self):
        self.assertIsNone(dead_ring(ALONE))
        self.assertEqual(dead_ring(loop_of(("a", [("a", 0), ("a", 1)]))), (("a", "a", 0),))
        two = loop_of(("a", []), ("b", []), ("c", []), ("b", "a", 0), ("a", "b", 0), ("c", "c", 0))
        self.assertEqual(dead_ring(two), (("c", "c", 0),))
        two = loop_of(("a", []), ("b", []), ("c", []), ("c", "a", 0), ("a", "c", 0), ("c", "b", 0), ("b", "c", 0))
        self.assertEqual(dead_ring(two), (("a", "c", 0), ("c", "a", 0)))
        self.assertIsNone(dead_ring(loop_of(("a", [("b", 0)]), ("b", [("a", 1)]))))

    def test_a_ring_of_all_tasks(self):
        loop = loop_of(*((name, [("abcdefghij"[at - 1], 0)]) for at, name in enumerate("abcdefghij")))
        self.assertEqual([arc[0] for arc in dead_ring(loop)], list("abcdefghij"))


class Lots(unittest.TestCase):
    def test_by_chance(self):
        rng = rng_of(33)
        for _ in range(200):
            loop = random_loop(rng, 6, 2, 3)
            names = [task[0] for task in loop[0]]
            reached = {name: {name} for name in names}
            for _ in names:
                for earlier, later, _ in slow_arcs(loop):
                    for name in names:
                        if earlier in reached[name]:
                            reached[name].add(later)
            lots = {tuple(other for other in names if other in reached[name] and name in reached[other])
                    for name in names}
            self.assertEqual(check_unchanged(self, lots_of, loop), tuple(sorted(lots)))

    def test_edges(self):
        self.assertEqual(lots_of(ALONE), (("a",),))
        dead = loop_of(("a", [("c", 0)]), ("b", []), ("c", [("a", 0)]))
        self.assertEqual(lots_of(dead), (("a", "c"), ("b",)))

    def test_modulus_by_chance(self):
        rng = rng_of(34)
        for _ in range(150):
            loop = random_loop(rng, 3, 3, 3)
            for name, _, _ in loop[0]:
                sums = [total for later, total in slow_sums(loop, name, 30) if later == name]
                self.assertEqual(check_unchanged(self, modulus_of, loop, name), math.gcd(*sums))

    def test_modulus_edges(self):
        self.assertEqual(modulus_of(ALONE, "a"), 0)
        self.assertEqual(modulus_of(loop_of(("a", [("a", 0)])), "a"), 0)
        self.assertEqual(modulus_of(loop_of(("a", [("a", 0), ("a", 6)])), "a"), 6)
        self.assertEqual(modulus_of(loop_of(("a", [("a", 4), ("a", 6)])), "a"), 2)
        self.assertEqual(modulus_of(loop_of(("a", [("a", 4), ("a", 7)])), "a"), 1)
        tied = loop_of(("a", [("b", 1), ("a", 6)]), ("b", [("a", 8)]), ("c", [("a", 1), ("c", 5)]))
        self.assertEqual([modulus_of(tied, name) for name in "abc"], [3, 3, 5])
        self.assertEqual([modulus_of(PAIR, name) for name in "ab"], [1, 0])
        far = loop_of(("a", [("b", 0), ("c", 0)]), ("b", [("a", 4)]), ("c", [("b", 6)]))
        self.assertEqual([modulus_of(far, name) for name in "abc"], [2, 2, 2])


if __name__ == "__main__":
    unittest.main()
