"""[30]: CODE, and what STEPS come to in CELLS; and what [5], [6], [7] and [8] say of all VALUES."""

import unittest

from slow import Slow, random_keeping, random_rings
from support import ALONE, BELT, PAIR, check_unchanged, loop_of, meant, random_live_loop, rng_of, same
from unwaited.judged import is_right, losing_run_of
from unwaited.machine import code_of, code_text, run_code, run_keeping
from unwaited.matchings import least_matching
from unwaited.meanings import values_of
from unwaited.rings import are_right_rings, cells_of_rings, keeping_of_rings, rings_of
from unwaited.runs import is_run, order_by
from unwaited.shares import corner_keeping, keeping_with
from unwaited.stairs import corners

DEEP = ((("a", 5, ("if", ("two", "<", ("read", "a", 2), ("number", 9)), ("two", "-", ("read", "b", 1), ("round",)),
                   ("if", ("read", "c", 1), ("number", 3), ("read", "a", 1)))),
         ("b", 6, ("two", "*", ("read", "a", 0), ("read", "a", 0))), ("c", 7, ("read", "c", 3)), ("d", 8, ("round",))),
        (("c", "b", 2),))


def rows_as_said(bases, firsts, expression):
    """The ROWS of an EXPRESSION, by [30]: those of its parts, and its own."""
    head = expression[0]
    if head == "number":
        return [("push", expression[1])]
    if head == "round":
        return [("round",)]
    if head == "read":
        _, name, d = expression
        return [("load", *bases[name], d, firsts[name])] if name in bases else [("slow", name, d, firsts[name])]
    parts = expression[2:] if head == "two" else expression[1:]
    rows = [row for part in parts for row in rows_as_said(bases, firsts, part)]
    return rows + [("two", expression[1]) if head == "two" else ("pick",)]


def code_as_said(slow, rings):
    firsts = {name: first for name, first, _ in slow.loop[0]}
    bases = {name: (sum(size for size, _ in rings[:at]), rings[at][0], offset)
             for at in range(len(rings)) for name, offset in rings[at][1]}
    code = {}
    for name, _, body in slow.loop[0]:
        last = ("store", *bases[name]) if name in bases else ("keep", name) if name in slow.readers else ("drop",)
        code[name] = (*rows_as_said(bases, firsts, body), last)
    return code


def played_as_said(slow, keeping, run):
    """What the STEPS of a RUN come to with a KEEPING, written down step by step."""
    firsts = {name: first for name, first, _ in slow.loop[0]}
    bodies = {name: body for name, _, body in slow.loop[0]}
    memory, values = {}, {}
    for name, at in run:
        def read(earlier, d):
            if at < d:
                return firsts[earlier]
            cell = slow.cell(keeping, (earlier, at - d))
            return values[earlier, at - d] if cell is None else memory[cell]
        values[name, at] = meant(bodies[name], at, read)
        if name in slow.readers and slow.cell(keeping, (name, at)) is not None:
            memory[slow.cell(keeping, (name, at))] = values[name, at]
    return values


def hurried_run(rng, loop, steps):
    """A RUN in which, at each place, the STEP that is asked for first by chance stands; some tasks hurry ahead."""
    slow = Slow(loop)
    keen = {name: rng.random() ** 3 for name in slow.names}
    rounds = {name: 0 for name in slow.names}
    done, run = set(), []
    for _ in range(steps):
        free = [name for name in slow.names
                if all(at < 0 or (earlier, at) in done for earlier, at in
                       ((earlier, rounds[name] - d) for earlier, later, d in slow.arcs if later == name))]
        name = max(free, key=lambda one: rng.random() * keen[one])
        run.append((name, rounds[name]))
        done.add(run[-1])
        rounds[name] += 1
    return tuple(run)


class Codes(unittest.TestCase):
    def test_as_said(self):
        rng = rng_of(301)
        kinds = set()
        for _ in range(200):
            slow = Slow(random_live_loop(rng, 5, 3, 5))
            rings = random_rings(rng, slow.read_names, 6)
            code = check_unchanged(self, code_of, slow.loop, rings)
            self.assertTrue(same(code, code_as_said(slow, rings)), (slow.loop, rings))
            self.assertEqual(list(code), slow.names)
            kinds |= {row[0] for rows in code.values() for row in rows}
        self.assertEqual(kinds, {"push", "round", "load", "slow", "two", "pick", "store", "keep", "drop"})

    def test_members_and_others(self):
        rings = ((3, (("c", 1),)), (2, (("a", 1),)))
        code = code_of(DEEP, rings)
        self.assertEqual(code["b"], (("load", 3, 2, 1, 0, 5), ("load", 3, 2, 1, 0, 5), ("two", "*"), ("keep", "b")))
        self.assertEqual(code["a"], (
            ("load", 3, 2, 1, 2, 5), ("push", 9), ("two", "<"), ("slow", "b", 1, 6), ("round",), ("two", "-"),
            ("load", 0, 3, 1, 1, 7), ("push", 3), ("load", 3, 2, 1, 1, 5), ("pick",), ("pick",), ("store", 3, 2, 1)))
        self.assertEqual(code["c"], (("load", 0, 3, 1, 3, 7), ("store", 0, 3, 1)))
        self.assertEqual(code["d"], (("round",), ("drop",)))
        self.assertEqual(code_of(ALONE, ()), {"a": (("round",), ("drop",))})

    def test_texts(self):
        rings = ((3, (("c", 1),)),)
        self.assertEqual(check_unchanged(self, code_text, code_of(DEEP, rings)).split("\n")[:8],
                         ["a:", "slow a 2 5", "push 9", "two <", "slow b 1 6", "round", "two -", "load 0 3 1 1 7"])
        self.assertEqual(code_text(code_of(ALONE, ())), "a:\nround\ndrop")
        turned = {"b": (("push", 0), ("drop",)), "a": (("round",), ("round",), ("round",), ("pick",), ("keep", "a"))}
        self.assertEqual(code_text(turned), "a:\nround\nround\nround\npick\nkeep a\nb:\npush 0\ndrop")

    def test_deep(self):
        body = ("round",)
        for _ in range(14):
            body = ("if", ("two", "<", body, ("number", 3)), body, ("number", 1)) if len(str(body)) < 20000 else \
                ("two", "+", body, ("read", "a", 1))
        loop = ((("a", 2, body),), ())
        run = order_by(loop, 8, ())
        plain = values_of(loop, 8)["a"]
        self.assertEqual(list(run_code(code_of(loop, ((1, (("a", 0),)),)), run).values()), list(plain))


class Values(unittest.TestCase):
    def check_plain(self, loop, told, run):
        plain = values_of(loop, max([at for _, at in run], default=0) + 1)
        self.assertEqual(told, {(name, at): plain[name][at] for name, at in run})
        self.assertEqual(list(told), sorted(run))

    def test_right_ones_come_to_the_plain_values(self):
        # [5], [6], [8]: in all RUNS, also where some tasks hurry far ahead.
        rng = rng_of(302)
        right = 0
        for _ in range(150):
            loop = random_live_loop(rng, 5, 3, 6)
            slow = Slow(loop)
            for is_cut in (False, True):
                rings = [random_rings(rng, slow.read_names, 12)]
                matching = least_matching(loop, is_cut)
                rings += [] if matching is None else [rings_of(loop, matching, is_cut)]
                rings += [rings_of(loop, one, is_cut) for one, _ in list(slow.matchings(is_cut))[-3:]]
                for one in rings:
                    if are_right_rings(loop, is_cut, one):
                        code = code_of(loop, one)
                        keeping = keeping_of_rings(loop, one)
                        for run in (order_by(loop, 6, [rng.randrange(50) for _ in range(30)]), hurried_run(rng, loop, 40)):
                            self.assertTrue(is_run(loop, run))
                            self.check_plain(loop, check_unchanged(self, run_code, code, run), run)
                            self.check_plain(loop, check_unchanged(self, run_keeping, loop, keeping, run), run)
                        right += len(one) > 0
        self.assertGreater(right, 150)

    def test_shares_come_to_the_plain_values(self):
        # [7]: what is not kept is found in the slow store.
        rng = rng_of(303)
        many = 0
        for _ in range(60):
            loop = random_live_loop(rng, 4, 2, 5)
            slow = Slow(loop)
            worths = {name: rng.randint(0, 9) for name in slow.read_names}
            for is_cut in (False, True):
                keepings = [corner_keeping(loop, worths, cells, is_cut) for cells, _ in corners(loop, worths, is_cut)]
                keepings += [keeping_with(loop, worths, m, 2, is_cut) for m in (1, 2, 3)]
                for keeping in keepings:
                    if keeping is not None and keeping[0] <= 100:
                        run = hurried_run(rng, loop, 40)
                        self.check_plain(loop, run_keeping(loop, keeping, run), run)
                        many += any(None in row for row in keeping[1].values())
        self.assertGreater(many, 100)

    def test_any_keeping_as_said(self):
        rng = rng_of(304)
        wrong = 0
        for _ in range(600):
            slow = Slow(random_live_loop(rng, 4, 3, 4))
            keeping = random_keeping(rng, slow.read_names, 4, 3, 0.3)
            run = hurried_run(rng, slow.loop, 25)
            told = check_unchanged(self, run_keeping, slow.loop, keeping, run)
            self.assertEqual(told, played_as_said(slow, keeping, run))
            self.assertEqual(list(told), sorted(run))
            plain = values_of(slow.loop, max(at for _, at in run) + 1)
            wrong += any(plain[name][at] != value for (name, at), value in told.items())
        self.assertGreater(wrong, 80)

    def test_rings_that_are_not_right(self):
        rng = rng_of(305)
        wrong = 0
        for _ in range(600):
            slow = Slow(random_live_loop(rng, 4, 3, 4))
            rings = random_rings(rng, slow.read_names, 3)
            run = hurried_run(rng, slow.loop, 25)
            told = run_code(code_of(slow.loop, rings), run)
            self.assertEqual(told, played_as_said(slow, keeping_of_rings(slow.loop, rings), run))
            plain = values_of(slow.loop, max(at for _, at in run) + 1)
            wrong += any(plain[name][at] != value for (name, at), value in told.items())
        self.assertGreater(wrong, 30)

    def test_a_losing_run_is_seen(self):
        keeping = (1, {"a": (0,)})
        run = losing_run_of(PAIR, keeping)
        self.assertEqual(is_right(PAIR, keeping, False), False)
        self.assertNotEqual(run_keeping(PAIR, keeping, run)[run[-1]], values_of(PAIR, 2)["b"][run[-1][1]])
        # By chance the VALUES may be the same: both STEPS of a come to 7.
        equal = ((("a", 0, ("number", 7)), ("b", 0, ("read", "a", 0))), ())
        self.check_plain(equal, run_keeping(equal, keeping, losing_run_of(equal, keeping)), losing_run_of(equal, keeping))

    def test_rounds_below_0_and_none(self):
        loop = ((("a", 4, ("two", "+", ("read", "a", 3), ("number", 1))), ("b", 0, ("read", "a", 8))), ())
        rings = ((9, (("a", 4),)),)
        run = tuple(("a", at) for at in range(9)) + tuple(("b", at) for at in (8, 3, 7, 0))
        self.assertEqual(list(run_code(code_of(loop, rings), run).values()), [5, 5, 5, 6, 6, 6, 7, 7, 7, 4, 4, 4, 5])
        self.assertEqual(run_code(code_of(loop, rings), ()), {})
        self.assertEqual(run_keeping(loop, (1, {"a": (None,)}), ()), {})
        self.assertEqual(run_keeping(loop, (1, {"a": (0,)}), (("a", 0), ("b", 2))), {("a", 0): 5, ("b", 2): 4})

    def test_far_rounds(self):
        loop = loop_of(("a", []), ("b", [("a", 0)]))
        run = (("a", 9999), ("a", 10000), ("b", 10000), ("b", 9999))
        self.assertEqual(list(run_code(code_of(loop, ()), run).values()), [9999, 0, 9998, 0])
        self.assertEqual(run_keeping(loop, (2, {"a": (0, 1)}), run)[("b", 9999)], 9998)

    def test_many_cells(self):
        matching = least_matching(BELT, True)
        rings = rings_of(BELT, matching, True)
        self.assertEqual(cells_of_rings(rings), 11)
        run = hurried_run(rng_of(306), BELT, 400)
        self.check_plain(BELT, run_code(code_of(BELT, rings), run), run)


if __name__ == "__main__":
    unittest.main()
