"""[29]: RINGS OF CELLS; what [6] and [8] say of them."""

import math
import unittest

from slow import Slow, random_rings
from support import ALONE, ANY, BELT, PAIR, check_truth, check_unchanged, loop_of, mangled, random_live_loop, rng_of
from unwaited.forms import is_keeping
from unwaited.judged import is_right
from unwaited.keepings import cell_of, cells_many
from unwaited.matchings import is_matching, least_matching, matching_cells
from unwaited.rings import are_right_rings, are_rings, cells_of_rings, keeping_of_rings, matching_of_rings, place_of
from unwaited.rings import rings_of
from unwaited.turns import shifts

CHAIN = loop_of(("a", []), ("b", [("a", 0)]), ("c", [("b", 0), ("c", 1)]), ("a", "c", 1))


def are_rings_as_said(slow, thing):
    """[29] once more."""
    if type(thing) is not tuple:
        return False
    names = []
    for ring in thing:
        if type(ring) is not tuple or len(ring) != 2 or type(ring[0]) is not int or type(ring[1]) is not tuple:
            return False
        if not ring[1]:
            return False
        for member in ring[1]:
            if type(member) is not tuple or [type(part) for part in member] != [str, int]:
                return False
            if not 0 <= member[1] < ring[0]:
                return False
            names.append(member[0])
        if list(ring[1]) != sorted(ring[1]):
            return False
    return set(names) <= set(slow.read_names) and len(names) == len(set(names))


def keeping_as_said(slow, rings):
    period = math.lcm(*(size for size, _ in rings))
    rows = {name: (None,) * period for name in slow.read_names}
    base = 0
    for size, members in rings:
        for name, offset in members:
            rows[name] = tuple(base + (at - offset) % size for at in range(period))
        base += size
    return (period, rows)


class Rings(unittest.TestCase):
    def test_rings_of_matchings(self):
        rng = rng_of(271)
        many = 0
        for _ in range(100):
            loop = random_live_loop(rng, 5, 2, 6)
            slow = Slow(loop)
            for is_cut in (False, True):
                told = shifts(loop, is_cut)
                for matching, cells in list(slow.matchings(is_cut))[:30]:
                    rings = check_unchanged(self, rings_of, loop, matching, is_cut)
                    self.assertEqual(rings, self.rings_as_said(matching, told))
                    self.assertEqual(cells_of_rings(rings), cells)
                    self.assertIs(are_rings(loop, rings), True)
                    self.assertIs(are_right_rings(loop, is_cut, rings), True)
                    self.assertEqual(check_unchanged(self, matching_of_rings, loop, rings, is_cut), matching)
                    keeping = check_unchanged(self, keeping_of_rings, loop, rings)
                    self.assertEqual(keeping, keeping_as_said(slow, rings))
                    if keeping[0] <= 60:
                        self.assertIs(is_right(loop, keeping, is_cut), True)
                    many += len(rings) > 1
        self.assertGreater(many, 100)

    def rings_as_said(self, matching, told):
        left = sorted(matching)
        rings = []
        while left:
            circle = [left[0]]
            while matching[circle[-1]] != circle[0]:
                circle.append(matching[circle[-1]])
            left = [name for name in left if name not in circle]
            steps = [told[name, matching[name]] for name in circle]
            members = sorted((name, sum(steps[:at]) % sum(steps)) for at, name in enumerate(circle))
            rings.append((sum(steps), tuple(members)))
        return tuple(rings)

    def test_right_by_chance(self):
        rng = rng_of(272)
        counts = {False: 0, True: 0}
        for _ in range(500):
            loop = random_live_loop(rng, 4, 2, 5)
            rings = random_rings(rng, Slow(loop).read_names, 7)
            self.assertIs(are_rings(loop, rings), True)
            keeping = keeping_of_rings(loop, rings)
            self.assertIs(is_keeping(loop, keeping), True)
            for is_cut in (False, True):
                right = are_right_rings(loop, is_cut, rings)
                check_truth(self, right, is_right(loop, keeping, is_cut), (loop, rings))
                counts[right] += 1
                if right:
                    matching = check_unchanged(self, matching_of_rings, loop, rings, is_cut)
                    self.assertIs(is_matching(loop, is_cut, matching), True)
                    self.assertEqual(list(matching), sorted(name for _, members in rings for name, _ in members))
                    self.assertLessEqual(matching_cells(loop, is_cut, matching), cells_of_rings(rings))
        self.assertGreater(min(counts.values()), 100)

    def test_places(self):
        rings = ((3, (("b", 2),)), (2, (("a", 1), ("c", 0))))
        rng = rng_of(273)
        keeping = keeping_of_rings(CHAIN, rings)
        self.assertEqual(keeping, (6, {"a": (4, 3, 4, 3, 4, 3), "b": (1, 2, 0, 1, 2, 0), "c": (3, 4, 3, 4, 3, 4)}))
        for step in [(name, rng.randrange(10 ** 39)) for name in "abc"] + [("a", 0), ("b", 0), ("b", 2)]:
            index, place = place_of(rings, step)
            self.assertEqual(cell_of(keeping, step), place + (0, 3)[index])
        self.assertEqual([place_of(rings, ("a", 0)), place_of(rings, ("b", 0)), place_of(rings, ("c", 7))],
                         [(1, 1), (0, 1), (1, 1)])
        self.assertEqual([place_of(((2, (("a", 0),)),), ("c", 0)), place_of((), ("a", 0))], [None, None])

    def test_members_of_one_offset(self):
        row = loop_of(("a", []), ("b", [("c", 0)]), ("c", [("a", 0)]), ("d", [("b", 0)]), ("a", "d", 1))
        rings = ((1, (("a", 0), ("b", 0), ("c", 0))),)
        self.assertIs(are_right_rings(row, False, rings), True)
        self.assertEqual(matching_of_rings(row, rings, False), {"a": "c", "b": "a", "c": "b"})
        self.assertEqual(rings_of(row, {"a": "c", "b": "a", "c": "b"}, False), rings)
        self.assertIs(are_right_rings(row, True, rings), False)
        # Round about in two rounds: the same offset again for what is a round later.
        self.assertEqual(rings_of(CHAIN, {"a": "b", "b": "c", "c": "a"}, False), ((2, (("a", 0), ("b", 0), ("c", 0))),))

    def test_least_period(self):
        rings = ((4, (("a", 0),)), (6, (("b", 5),)))
        self.assertEqual(keeping_of_rings(BELT, rings)[0], 12)
        self.assertEqual(cells_of_rings(rings), 10)
        self.assertEqual(keeping_of_rings(BELT, ((4, (("a", 0),)), (2, (("b", 0),))))[0], 4)
        self.assertEqual(cells_many(keeping_of_rings(BELT, rings)), 10)

    def test_keys_in_any_order(self):
        self.assertEqual(rings_of(BELT, {"b": "b", "a": "a"}, False), ((5, (("a", 0),)), (3, (("b", 0),))))
        self.assertEqual(rings_of(BELT, {"b": "a", "a": "b"}, False), ((11, (("a", 0), ("b", 5))),))

    def test_no_rings(self):
        self.assertEqual(keeping_of_rings(BELT, ()), (1, {"a": (None,), "b": (None,)}))
        self.assertEqual(keeping_of_rings(ALONE, ()), (1, {}))
        self.assertEqual([cells_of_rings(()), rings_of(BELT, {}, True), matching_of_rings(BELT, (), True)], [0, (), {}])
        for loop in (BELT, ALONE):
            self.assertIs(are_rings(loop, ()), True)
            self.assertIs(are_right_rings(loop, True, ()), True)

    def test_great_sizes(self):
        own = loop_of(("a", [("a", 1)]), ("b", [("b", 2)]))
        great = 10 ** 39
        self.assertIs(are_right_rings(own, True, ((great, (("a", great - 1),)), (great + 1, (("b", 0),)))), False)
        self.assertIs(are_right_rings(own, True, ((great, (("a", great - 1),)), (great + 2, (("b", 0),)))), True)
        self.assertIs(are_right_rings(BELT, False, ((great, (("a", 0), ("b", 5))),)), True)
        self.assertIs(are_right_rings(BELT, False, ((great, (("a", 0), ("b", 4))),)), False)
        self.assertIs(are_right_rings(BELT, False, ((great, (("a", 5), ("b", great - 1))),)), True)
        self.assertIs(are_right_rings(BELT, False, ((great, (("a", 4), ("b", great - 1))),)), False)
        self.assertEqual(matching_of_rings(BELT, ((great, (("a", 0), ("b", 5))),), False), {"a": "b", "b": "a"})
        many = ((8, (("a", 7),)), (997, (("b", 0),)))
        self.assertEqual(keeping_of_rings(BELT, many)[0], 7976)
        self.assertIs(is_right(BELT, keeping_of_rings(BELT, many), True), are_right_rings(BELT, True, many))

    def test_any_value(self):
        rings = ((5, (("a", 0),)), (3, (("b", 2),)))
        self.assertIs(are_right_rings(BELT, False, rings), True)
        self.assertIs(are_right_rings(BELT, True, rings), False)
        slow = Slow(BELT)
        strange = [((1, (("a", 0), ("a", 0))),), ((2, (("a", 0), ("a", 1))),), ((2, (("b", 0), ("a", 1))),), ((1, ()),),
                   ((True, (("a", 0),)),), ((2, (("a", True),)),), ((2, (("a", 2),)),), ((2, (("a", -1),)),),
                   ((1, (("c", 0),)),), ((0, (("a", 0),)),), ((2, (("a", 0),)), (2, (("a", 1),))), (rings[0], rings[0])]
        for thing in [*ANY, rings, *mangled(rings), *strange]:
            right = are_rings_as_said(slow, thing)
            check_truth(self, are_rings(BELT, thing), right, thing)
            if right and all(size < 9 for size, _ in thing):
                right = is_right(BELT, keeping_as_said(slow, thing), False)
            elif right:
                continue
            check_truth(self, are_right_rings(BELT, False, thing), right, thing)
        self.assertIs(are_rings(PAIR, ((9, (("a", 8),)),)), True)
        self.assertIs(are_right_rings(PAIR, False, ((9, (("a", 8),)),)), False)

    def test_order_of_rings(self):
        # The order in which they stand is that of the numbers of their CELLS; any order makes RINGS.
        rings = rings_of(BELT, least_matching(BELT, False), False)
        self.assertEqual(rings, ((5, (("a", 0),)), (3, (("b", 0),))))
        self.assertIs(are_right_rings(BELT, False, rings[::-1]), True)
        self.assertEqual(keeping_of_rings(BELT, rings[::-1])[1]["b"][:4], (0, 1, 2, 0))
        self.assertEqual(keeping_of_rings(BELT, rings[::-1])[1]["a"][:6], (3, 4, 5, 6, 7, 3))

    def test_what_is_returned_is_new(self):
        rings = rings_of(BELT, {"a": "a"}, False)
        keeping_of_rings(BELT, rings)[1].clear()
        matching_of_rings(BELT, rings, False).clear()
        self.assertEqual([len(keeping_of_rings(BELT, rings)[1]), matching_of_rings(BELT, rings, False)], [2, {"a": "a"}])


if __name__ == "__main__":
    unittest.main()
