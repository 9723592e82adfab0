"""[15]: what STEPS come to."""

import unittest

from support import ALONE, check_unchanged, meant, random_expression, random_live_loop, rng_of, slow_reads
from unwaited.errors import NoTask
from unwaited.looptexts import read_loop
from unwaited.meanings import comes_to, first_of, plain_memory, reads_at, value_of, values_of
from unwaited.runs import order_by

TASKS = "task a first 7 = a @ 2 + 1\ntask b first 0 = if a < 9 then a * round else b @ 1 - a"


def slow_value(loop, name, at, known):
    """The VALUE of a STEP, by what it reads; the first one below round 0."""
    first, body = {task[0]: task[1:] for task in loop[0]}[name]
    if at < 0:
        return first
    if (name, at) not in known:
        known[name, at] = meant(body, at, lambda other, d: slow_value(loop, other, at - d, known))
    return known[name, at]


class ComesTo(unittest.TestCase):
    def check(self, expression, at, found, value):
        told = check_unchanged(self, comes_to, expression, at, found)
        self.assertIs(type(told), int)
        self.assertEqual(told, value)

    def test_each_kind(self):
        found = {("a", 0): 3, ("a", 2): 9999, ("b", 100): 0}
        a, far, b = ("read", "a", 0), ("read", "a", 2), ("read", "b", 100)
        for expression, value in [(("number", 9999), 9999), (("number", 0), 0), (("round",), 5), (a, 3), (far, 9999),
                                  (("two", "+", far, ("number", 1)), 0), (("two", "+", far, far), 9998),
                                  (("two", "-", b, ("number", 1)), 9999), (("two", "-", b, far), 1),
                                  (("two", "*", far, far), 1), (("two", "*", a, far), 9997), (("two", "<", a, far), 1),
                                  (("two", "<", far, a), 0), (("two", "<", a, a), 0), (("if", b, a, far), 9999),
                                  (("if", a, a, far), 3), (("if", far, b, a), 0), (("if", ("number", 0), a, b), 0)]:
            self.check(expression, 5, found, value)

    def test_sides_are_not_exchanged(self):
        a, b = ("read", "a", 0), ("read", "b", 0)
        found = {("a", 0): 8, ("b", 0): 3}
        self.check(("two", "-", a, b), 0, found, 5)
        self.check(("two", "-", b, a), 0, found, 9995)
        self.check(("two", "<", b, a), 0, found, 1)
        self.check(("two", "-", ("two", "-", a, b), ("two", "-", b, a)), 0, found, 10)

    def test_far_rounds(self):
        for at, value in [(0, 0), (9999, 9999), (10000, 0), (10004, 4), (123456789, 6789), (10 ** 30 + 17, 17)]:
            self.check(("round",), at, {}, value)

    def test_by_chance(self):
        rng = rng_of(21)
        for _ in range(1500):
            expression = random_expression(rng, ["a", "b", "c"], rng.randrange(7), 5)
            found = {read: rng.choice((0, 1, 9999, rng.randrange(10000))) for read in slow_reads(expression)}
            at = rng.choice((0, 1, 9999, 10000, rng.randrange(10 ** 6)))
            self.check(expression, at, found, meant(expression, at, lambda name, d: found[name, d]))

    def test_deep(self):
        deep = ("round",)
        for _ in range(3000):
            deep = ("two", "-", ("number", 1), deep)
        self.assertEqual(comes_to(deep, 7, {}), 7)


class Values(unittest.TestCase):
    def test_by_chance(self):
        rng = rng_of(22)
        for _ in range(150):
            loop = random_live_loop(rng, 5, 4, 4)
            rounds = rng.choice((0, 1, 2, 7, 12))
            known = {}
            values = check_unchanged(self, values_of, loop, rounds)
            self.assertEqual(list(values), [task[0] for task in loop[0]])
            for name, row in values.items():
                self.assertIs(type(row), tuple)
                self.assertEqual(row, tuple(slow_value(loop, name, at, known) for at in range(rounds)))
            for name, first, body in loop[0]:
                self.assertEqual(first_of(loop, name), first)
                for at in (0, 1, 2, 5, 11):
                    self.assertEqual(value_of(loop, (name, at)), slow_value(loop, name, at, known))
                    reads = tuple((other, d, slow_value(loop, other, at - d, known))
                                  for other, d in sorted(slow_reads(body)))
                    self.assertEqual(check_unchanged(self, reads_at, loop, (name, at)), reads)

    def test_no_rounds(self):
        self.assertEqual(values_of(read_loop(TASKS), 0), {"a": (), "b": ()})

    def test_many_rounds(self):
        loop = read_loop("task a first 0 = a @ 1 + 1\ntask b first 3 = b @ 8 + a @ 8\ntask c first 1 = round")
        values = values_of(loop, 400)
        self.assertEqual(values["a"], tuple(range(1, 401)))
        self.assertEqual(values["c"], tuple(range(400)))
        self.assertEqual(values["b"][:10], (3,) * 8 + (4, 5))
        self.assertEqual(value_of(loop, ("b", 399)), values["b"][399])

    def test_far_rounds(self):
        loop = read_loop("task a first 7 = a @ 1 + 1\ntask b first 0 = round - a @ 3\ntask c first 5 = c @ 8")
        self.assertEqual(value_of(loop, ("a", 10000)), (7 + 10001) % 10000)
        self.assertEqual(value_of(loop, ("b", 10000)), (0 - 5) % 10000)
        self.assertEqual(reads_at(loop, ("b", 10000)), (("a", 3, 5),))
        self.assertEqual(value_of(loop, ("c", 9999)), 5)
        self.assertEqual(value_of(ALONE, ("a", 10 ** 20 + 3)), 3)

    def test_rounds_below_0(self):
        loop = read_loop("task a first 7 = 1\ntask b first 8 = a @ 3 + b @ 1")
        self.assertEqual(reads_at(loop, ("b", 0)), (("a", 3, 7), ("b", 1, 8)))
        self.assertEqual(reads_at(loop, ("b", 2)), (("a", 3, 7), ("b", 1, 22)))
        self.assertEqual(reads_at(loop, ("b", 3)), (("a", 3, 1), ("b", 1, 29)))

    def test_where_an_if_does_not_go(self):
        loop = read_loop("task a first 7 = 4\ntask b first 0 = if 0 then a @ 1 else a")
        self.assertEqual(reads_at(loop, ("b", 0)), (("a", 0, 4), ("a", 1, 7)))
        self.assertEqual(values_of(loop, 1), {"a": (4,), "b": (4,)})

    def test_no_reads(self):
        self.assertEqual(reads_at(ALONE, ("a", 3)), ())
        self.assertEqual(values_of(ALONE, 3), {"a": (0, 1, 2)})

    def test_names_ascending_although_worked_out_the_other_way(self):
        loop = read_loop("task a first 0 = b\ntask b first 0 = c\ntask c first 0 = round")
        self.assertEqual(list(values_of(loop, 2).items()), [("a", (0, 1)), ("b", (0, 1)), ("c", (0, 1))])

    def test_no_such_task(self):
        with self.assertRaises(NoTask) as caught:
            first_of(ALONE, "b")
        self.assertEqual(caught.exception.name, "b")


class Memory(unittest.TestCase):
    def test_in_the_order_of_the_run(self):
        rng = rng_of(23)
        for _ in range(150):
            loop = random_live_loop(rng, 4, 3, 3)
            rounds = rng.randrange(6)
            run = order_by(loop, rounds, [rng.randrange(50) for _ in range(40)])
            run = run[:rng.randrange(len(run) + 1)]
            memory = check_unchanged(self, plain_memory, loop, run)
            self.assertEqual(tuple(memory), run)
            known = {}
            for name, at in run:
                self.assertEqual(memory[name, at], slow_value(loop, name, at, known))

    def test_empty(self):
        self.assertEqual(plain_memory(ALONE, ()), {})

    def test_a_task_far_ahead(self):
        loop = read_loop("task a first 7 = round\ntask b first 0 = a")
        self.assertEqual(list(plain_memory(loop, (("a", 9), ("a", 2), ("b", 9))).items()),
                         [(("a", 9), 9), (("a", 2), 2), (("b", 9), 9)])


if __name__ == "__main__":
    unittest.main()
