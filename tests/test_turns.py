"""[21]: TURNS, SHIFTS and TURN PAPERS; and what [8] says of cuts."""

import unittest

from slow import Slow
from support import ALONE, ANY, BELT, PAIR, check_truth, check_unchanged, loop_of, mangled, random_live_loop, rng_of
from support import slow_arcs, slow_paths
from unwaited.sums import has, is_table
from unwaited.turns import endless_tasks, is_turn, is_turn_paper, leads_back, shift, shifts, turn_paper, turn_table

GREAT = 10 ** 40 - 1
OPEN = (BELT[0], ())
# Read by two that come round in two rounds each, a round apart: both at once are never in a round.
APART = loop_of(("a", []), ("b", [("a", 0), ("b", 2)]), ("c", [("a", 1), ("c", 2)]), ("d", [("d", 1)]),
                ("d", "b", 0), ("d", "c", 0))
NEVER = loop_of(("a", []), ("b", [("a", 0), ("e", 2)]), ("c", [("a", 1), ("e", 2)]), ("e", [("e", 2)]),
                ("e", "b", 0), ("e", "c", 0))


def is_paper_as_said(loop, one, other, is_cut, thing):
    """[21] once more."""
    slow = Slow(loop)
    if type(thing) is not dict or len(thing) != len(slow.readers[one[0]]):
        return False
    arcs = slow_arcs(loop)
    for key, path in thing.items():
        if type(key) is not tuple or [type(part) for part in key] != [str, int] or key not in slow.readers[one[0]]:
            return False
        if type(path) is not tuple or (is_cut and path == ()):
            return False
        name, at = key[0], one[1] + key[1]
        for arc in path:
            if type(arc) is not tuple or [type(part) for part in arc] != [str, str, int] or arc not in arcs:
                return False
            if arc[0] != name:
                return False
            name, at = arc[1], at + arc[2]
        if (name, at) != other:
            return False
    return True


class Turns(unittest.TestCase):
    def test_turns_by_chance(self):
        rng = rng_of(211)
        for _ in range(150):
            loop = random_live_loop(rng, 4, 3, 4)
            slow = Slow(loop)
            for a in slow.read_names:
                for b in slow.read_names:
                    for i, j in ((0, 0), (0, 1), (3, 2), (2, 5), (0, 7), (7, 0), (3, 12)):
                        if (a, i) != (b, j):
                            for is_cut in (False, True):
                                check_truth(self, is_turn(loop, (a, i), (b, j), is_cut),
                                            slow.turn((a, i), (b, j), is_cut), (loop, a, i, b, j, is_cut))

    def test_tables_by_chance(self):
        rng = rng_of(212)
        for _ in range(60):
            loop = random_live_loop(rng, 4, 3, 4)
            slow = Slow(loop)
            for a in slow.read_names:
                for b in slow.read_names:
                    for is_cut in (False, True):
                        table = check_unchanged(self, turn_table, loop, a, b, is_cut)
                        self.assertIs(is_table(table), True)
                        for s in range(table[1] + 2 * table[2] + 3):
                            right = (a, 0) != (b, s) and slow.turn((a, 0), (b, s), is_cut)
                            self.assertIs(has(table, s), right, (loop, a, b, s))

    def test_shifts_by_chance(self):
        rng = rng_of(213)
        for _ in range(120):
            loop = random_live_loop(rng, 4, 3, 4)
            slow = Slow(loop)
            for is_cut in (False, True):
                told = check_unchanged(self, shifts, loop, is_cut)
                self.assertEqual(list(told), sorted(told))
                self.assertEqual({couple: s for couple, s in told.items() if s < 40}, slow.shifts(is_cut, 40))
                for a in slow.read_names:
                    for b in slow.read_names:
                        self.assertEqual(shift(loop, a, b, is_cut), told.get((a, b)))

    def test_turns_follow_one_another(self):
        rng = rng_of(214)
        for _ in range(80):
            told = shifts(random_live_loop(rng, 5, 3, 6), rng.random() < 0.5)
            for (a, b), s in told.items():
                for (c, d), more in told.items():
                    if b == c:
                        self.assertLessEqual(told[a, d], s + more)

    def test_gaps(self):
        self.assertEqual(turn_table(BELT, "b", "b", False), ((3, 6), 8, 1, (0,)))
        self.assertEqual(turn_table(BELT, "b", "b", True)[:2], ((6,), 8))
        two = loop_of(("a", [("a", 2)]), ("b", [("b", 3), ("a", 0)]))
        self.assertEqual(turn_table(two, "b", "b", False), ((), 1, 3, (0,)))
        self.assertEqual(turn_table(two, "b", "b", True), ((), 4, 3, (0,)))
        self.assertEqual(turn_table(two, "a", "a", False), ((), 0, 1, ()))

    def test_several_remainders(self):
        # Two ways to b, which comes round in five rounds.
        for late in range(6):
            two = loop_of(("a", []), ("c", [("a", late)]), ("b", [("b", 5)]), ("b", "c", 1), ("b", "c", 3))
            table = turn_table(two, "a", "b", False)
            self.assertEqual(table[2:], (5, tuple(sorted(((late + 1) % 5, (late + 3) % 5)))))
            self.assertIs(is_table(table), True)
            self.assertEqual([s for s in range(30) if has(table, s)],
                             sorted(late + s + more for more in range(0, 30, 5) for s in (1, 3) if late + s + more < 30))

    def test_the_last_reader_itself(self):
        # (b, 3) reads (b, 0) first, and then writes: its TURN is there, but no STRICT one.
        self.assertIs(is_turn(BELT, ("b", 0), ("b", 3), False), True)
        self.assertIs(is_turn(BELT, ("b", 0), ("b", 3), True), False)
        self.assertEqual([shift(PAIR, "a", "a", False), shift(PAIR, "a", "a", True)], [None, None])
        own = loop_of(("a", [("a", 1)]))
        self.assertEqual([shift(own, "a", "a", False), shift(own, "a", "a", True)], [1, 2])
        self.assertEqual(turn_table(own, "a", "a", True), ((), 2, 1, (0,)))

    def test_backwards_and_in_one_round(self):
        self.assertIs(is_turn(BELT, ("a", 5), ("b", 4), False), False)
        row = loop_of(("a", [("b", 1)]), ("b", [("a", 0)]))
        self.assertIs(is_turn(row, ("a", 3), ("b", 3), False), True)
        self.assertIs(is_turn(row, ("a", 3), ("b", 3), True), False)
        self.assertIs(is_turn(row, ("b", 3), ("a", 3), False), False)
        self.assertEqual(shifts(row, False), {("a", "a"): 1, ("a", "b"): 0, ("b", "a"): 1, ("b", "b"): 1})
        self.assertEqual(shifts(row, True), {("a", "a"): 1, ("a", "b"): 1, ("b", "a"): 2, ("b", "b"): 1})

    def test_far_rounds(self):
        self.assertIs(is_turn(BELT, ("b", 0), ("b", 10000), False), True)
        self.assertIs(is_turn(BELT, ("b", 9996), ("b", 10000), True), False)
        self.assertIs(is_turn(BELT, ("b", 9997), ("b", 10000), False), True)
        slow = loop_of(("a", [("a", 8)]))
        self.assertIs(is_turn(slow, ("a", 8), ("a", 10000), True), True)
        self.assertIs(is_turn(slow, ("a", 7), ("a", 10000), True), False)

    def test_no_shift_though_paths_lead_there(self):
        for is_cut in (False, True):
            self.assertIs(shift(NEVER, "a", "e", is_cut), None)
            self.assertEqual(turn_table(NEVER, "a", "e", is_cut), ((), 0, 1, ()))
            self.assertNotIn(("a", "e"), shifts(NEVER, is_cut))
        self.assertEqual(shift(NEVER, "e", "e", True), 4)
        self.assertEqual(shift(APART, "a", "d", False), 1)

    def test_a_shift_that_is_very_late(self):
        # RINGS of 7, 8 and 5 rounds, each asked for another remainder: they come together late.
        apart = loop_of(("a", []), ("b", [("a", 5), ("b", 7)]), ("c", [("a", 6), ("c", 8)]), ("d", [("a", 2), ("d", 5)]),
                        ("e", [("f", 0)]), ("f", []), ("f", "b", 0), ("f", "c", 0), ("f", "d", 0))
        self.assertEqual(shift(apart, "a", "f", False),
                         next(s for s in range(6, 999) if s % 7 == 5 and s % 8 == 6 and s % 5 == 2))

    def test_a_shift_that_is_later_still(self):
        late = loop_of(("a", []), ("c", [("a", 8), ("d", 8)]), ("d", [("c", 8)]), ("e", [("a", 8), ("f", 8)]),
                       ("f", [("e", 7)]), ("g", [("a", 1), ("h", 8)]), ("h", [("g", 5)]), ("i", [("a", 0), ("i", 7)]),
                       ("j", [("c", 0), ("e", 0), ("g", 0), ("i", 0)]), ("k", [("j", 0)]))
        told = next(s for s in range(10 ** 6) if (s % 16, s % 15, s % 13, s % 7) == (8, 8, 1, 0))
        self.assertEqual([shift(late, "a", "j", False), shift(late, "a", "j", True)], [told, told])
        self.assertIs(is_turn(late, ("a", 0), ("j", told + 16 * 15 * 13 * 7 * 10 ** 30), False), True)
        self.assertIs(is_turn(late, ("a", 0), ("j", told + 16 * 15 * 13 * 10 ** 30), False), False)

    def test_leads_back(self):
        self.assertEqual([leads_back(BELT, "a"), leads_back(BELT, "b"), endless_tasks(BELT)], [True, True, ()])
        self.assertEqual([leads_back(OPEN, "a"), leads_back(OPEN, "b"), endless_tasks(OPEN)], [False, False, ("a", "b")])
        self.assertEqual([endless_tasks(ALONE), shifts(ALONE, False)], [(), {}])
        rng = rng_of(215)
        for _ in range(120):
            loop = random_live_loop(rng, 5, 3, 5)
            names = Slow(loop).read_names
            for is_cut in (False, True):
                told = shifts(loop, is_cut)
                for name in names:
                    check_truth(self, leads_back(loop, name), (name, name) in told, (loop, name))
            self.assertEqual(endless_tasks(loop), tuple(name for name in names if not leads_back(loop, name)))


class Papers(unittest.TestCase):
    def test_papers_by_chance(self):
        rng = rng_of(216)
        for _ in range(100):
            loop = random_live_loop(rng, 4, 2, 4)
            slow = Slow(loop)
            for _ in range(12 if slow.read_names else 0):
                one = (rng.choice(slow.read_names), rng.randrange(4))
                other = (rng.choice(slow.read_names), rng.randrange(9))
                is_cut = rng.random() < 0.5
                if one == other:
                    continue
                paper = check_unchanged(self, turn_paper, loop, one, other, is_cut)
                self.assertEqual(paper is not None, slow.turn(one, other, is_cut))
                if paper is not None:
                    self.assertEqual(list(paper), sorted(slow.readers[one[0]]))
                    self.assertIs(is_turn_paper(loop, one, other, is_cut, paper), True)
                    for (name, d), path in paper.items():
                        paths = slow_paths(loop, name, other[0], other[1] - one[1] - d, len(path)) if len(path) < 6 else []
                        if paths:
                            self.assertEqual(path, min(paths, key=lambda told: (len(told), told)))

    def test_far_papers(self):
        paper = turn_paper(BELT, ("b", 0), ("b", 10000), True)
        self.assertIs(is_turn_paper(BELT, ("b", 0), ("b", 10000), True, paper), True)
        self.assertIs(is_turn_paper(BELT, ("b", 0), ("b", 9999), True, paper), False)
        self.assertIs(is_turn_paper(BELT, ("b", 1), ("b", 10000), True, paper), False)
        self.assertIs(turn_paper(BELT, ("b", 5), ("b", 4), False), None)

    def test_any_value_as_paper(self):
        steps = (("a", 0), ("a", 1), ("a", 5), ("b", 3), ("b", 6))
        paper = {("b", 3): (), ("c", 0): (("c", "a", 3), ("a", "b", 0))}
        self.assertIs(is_turn_paper(BELT, ("b", 0), ("b", 3), False, paper), True)
        self.assertIs(is_turn_paper(BELT, ("b", 0), ("b", 3), True, paper), False)
        things = [*ANY, paper, *mangled(paper), turn_paper(BELT, ("b", 0), ("b", 6), True)]
        for loop in (BELT, OPEN):
            for is_cut in (False, True):
                for one in (("b", 0), ("a", 0), ("b", 3)):
                    for other in steps:
                        for thing in things if one != other else []:
                            check_truth(self, is_turn_paper(loop, one, other, is_cut, thing),
                                        is_paper_as_said(loop, one, other, is_cut, thing), (one, other, is_cut, thing))

    def test_any_value_for_one_reader(self):
        own = loop_of(("a", [("a", 1)]))
        paper = {("a", 1): (("a", "a", 1),)}
        for thing in [*ANY, paper, *mangled(paper), {1: ()}, {"a1": ()}, {("a",): ()}, {None: ()}, {("a", 1, 1): ()}]:
            for is_cut in (False, True):
                check_truth(self, is_turn_paper(own, ("a", 0), ("a", 2), is_cut, thing),
                            is_paper_as_said(own, ("a", 0), ("a", 2), is_cut, thing), thing)

    def test_truths_are_no_numbers_of_readers(self):
        own = loop_of(("a", [("a", 1)]))
        self.assertIs(is_turn_paper(own, ("a", 0), ("a", 1), False, {("a", 1): ()}), True)
        self.assertIs(is_turn_paper(own, ("a", 0), ("a", 1), False, {("a", True): ()}), False)
        self.assertIs(is_turn_paper(own, ("a", 0), ("a", 2), True, {("a", 1): (("a", "a", 1),)}), True)
        self.assertIs(is_turn_paper(own, ("a", 0), ("a", 2), True, {("a", 1): (("a", "a", True),)}), False)

    def test_papers_are_new(self):
        paper = turn_paper(BELT, ("b", 0), ("b", 3), False)
        paper.clear()
        told = shifts(BELT, False)
        told.clear()
        self.assertEqual(len(turn_paper(BELT, ("b", 0), ("b", 3), False)), 2)
        self.assertEqual(len(shifts(BELT, False)), 4)


if __name__ == "__main__":
    unittest.main()
