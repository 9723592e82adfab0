"""[19]: RUNS, CUT RUNS, ORDERS."""

import itertools
import math
import unittest

from support import ALONE, ANY, BELT, PAIR, check_truth, check_unchanged, loop_of, mangled, many_tasks
from support import random_live_loop, rng_of, slow_before, slow_sets, window
from unwaited.errors import TooMany
from unwaited.runs import Window, all_orders, closed, is_cut_run, is_run, least_run, order_by, orders_many, ready, whole_steps

GREAT = 10 ** 40 - 1


def is_step_as_said(loop, thing):
    return type(thing) is tuple and [type(item) for item in thing] == [str, int] and thing[1] >= 0 \
        and thing[0] in [task[0] for task in loop[0]]


def is_run_as_said(loop, thing):
    """[2] once more; None for far rounds, of which it would take too long to list what is BEFORE them."""
    if type(thing) is not tuple or not all(is_step_as_said(loop, step) for step in thing):
        return False
    if any(step[1] > 500 for step in thing):
        return None
    return all(step not in thing[:at] and slow_before(loop, step) <= set(thing[:at]) for at, step in enumerate(thing))


def is_cut_run_as_said(loop, thing):
    """[2] once more: those that are whole are a RUN, all that is BEFORE a STEP is whole ahead of it, and so on."""
    if type(thing) is not tuple or not all(type(item) is tuple and len(item) == 2 and type(item[1]) is bool
                                           and is_step_as_said(loop, item[0]) for item in thing):
        return False
    if any(step[1] > 500 for step, _ in thing):
        return None
    whole = [step for step, is_whole in thing if is_whole]
    if not is_run_as_said(loop, tuple(whole)):
        return False
    for at, (step, _) in enumerate(thing):
        ahead = {other for other, is_whole in thing[:at] if is_whole}
        if step in ahead or not slow_before(loop, step) <= ahead:
            return False
    return True


class Runs(unittest.TestCase):
    def test_any_value(self):
        run = (("a", 0), ("b", 0), ("a", 1), ("a", 2), ("c", 0), ("b", 1))
        self.assertIs(is_run(BELT, run), True)
        things = [*ANY, run, *mangled(run), run[::-1], run + run, run[1:], (), (("a", GREAT),), (("a", 0), ("b", False))]
        for loop in (BELT, PAIR, ALONE):
            for thing in things:
                right = is_run_as_said(loop, thing)
                if right is not None:
                    check_truth(self, is_run(loop, thing), right, thing)

    def test_far_rounds(self):
        self.assertIs(is_run(ALONE, (("a", GREAT), ("a", 0))), True)
        self.assertIs(is_run(PAIR, (("a", GREAT),)), False)
        self.assertIs(is_run(PAIR, (("b", GREAT),)), False)

    def test_all_rows_of_few_steps(self):
        for loop in (PAIR, loop_of(("a", [("b", 1)]), ("b", [("a", 1)])), loop_of(("a", [("a", 2)]), ("b", []))):
            for many in range(5):
                for run in itertools.permutations(window(loop, 2), many):
                    check_truth(self, is_run(loop, run), is_run_as_said(loop, run), run)

    def test_truths_are_no_rounds(self):
        self.assertIs(is_run(PAIR, (("a", 0), ("a", 1))), True)
        self.assertIs(is_run(PAIR, (("a", False), ("a", True))), False)
        self.assertIs(is_run(PAIR, [("a", 0)]), False)

    def test_cut_runs_of_any_value(self):
        cut = ((("a", 0), False), (("a", 0), True), (("b", 0), False), (("b", 0), False), (("a", 1), True))
        self.assertIs(is_cut_run(PAIR, cut), True)
        things = [*ANY, cut, *mangled(cut), cut[::-1], cut + cut, (), ((("a", 0), 1),), ((("a", 0), None),)]
        for loop in (PAIR, BELT, ALONE):
            for thing in things:
                right = is_cut_run_as_said(loop, thing)
                if right is not None:
                    check_truth(self, is_cut_run(loop, thing), right, thing)
        self.assertIs(is_cut_run(PAIR, ((("a", GREAT), False),)), False)
        self.assertIs(is_cut_run(ALONE, ((("a", GREAT), False), (("a", GREAT), True))), True)
        self.assertIs(is_cut_run(ALONE, ((("a", GREAT), True), (("a", GREAT), False))), False)

    def test_all_cut_rows_of_few_steps(self):
        items = [(step, is_whole) for step in window(PAIR, 2) for is_whole in (True, False)]
        for many in range(5):
            for cut in itertools.product(items, repeat=many):
                check_truth(self, is_cut_run(PAIR, cut), is_cut_run_as_said(PAIR, cut), cut)

    def test_whole_steps(self):
        cut = ((("a", 0), False), (("a", 0), True), (("b", 0), False), (("a", 1), True))
        self.assertEqual(check_unchanged(self, whole_steps, cut), (("a", 0), ("a", 1)))
        self.assertEqual(whole_steps(()), ())
        self.assertEqual(whole_steps(cut[:1]), ())


class Closed(unittest.TestCase):
    def test_by_chance(self):
        rng = rng_of(61)
        for _ in range(150):
            loop = random_live_loop(rng, 4, 3, 3)
            steps = rng.sample(window(loop, 6), rng.randrange(min(5, 6 * len(loop[0])) + 1))
            steps += steps[:rng.randrange(2)]
            if rng.randrange(2):
                steps = tuple(steps)
            meant = set(steps).union(*(slow_before(loop, step) for step in steps))
            self.assertEqual(check_unchanged(self, closed, loop, steps), tuple(sorted(meant)))
            run = check_unchanged(self, least_run, loop, steps)
            self.assertEqual(run, self.least(loop, meant))
            self.assertIs(is_run(loop, run), True)

    def least(self, loop, steps):
        """Of the STEPS that can stand next always the least one: no other RUN can be less."""
        run = []
        before = {step: slow_before(loop, step) for step in steps}
        while len(run) < len(steps):
            run.append(min(step for step in steps if step not in run and before[step] <= set(run)))
        return tuple(run)

    def test_least_of_all(self):
        rng = rng_of(62)
        for _ in range(40):
            loop = random_live_loop(rng, 3, 2, 3)
            steps = closed(loop, rng.sample(window(loop, 2), 2))
            if len(steps) < 7:
                runs = [run for run in itertools.permutations(steps) if is_run_as_said(loop, run)]
                self.assertEqual(least_run(loop, steps), min(runs))

    def test_edges(self):
        self.assertEqual(closed(PAIR, []), ())
        self.assertEqual(least_run(PAIR, ()), ())
        self.assertEqual(closed(PAIR, [("b", 400)]), (*(("a", at) for at in range(401)), ("b", 400)))
        self.assertEqual(len(least_run(BELT, [("c", 400)])), len(closed(BELT, [("c", 400)])))
        self.assertEqual(least_run(PAIR, [("b", 1), ("b", 1)]), (("a", 0), ("a", 1), ("b", 1)))


class Orders(unittest.TestCase):
    def test_ready(self):
        rng = rng_of(63)
        for _ in range(150):
            loop = random_live_loop(rng, 4, 3, 3)
            rounds = rng.randrange(5)
            run = order_by(loop, 4, [rng.randrange(9) for _ in range(20)])
            run = run[:rng.randrange(len(run) + 1)]
            meant = tuple(step for step in window(loop, rounds)
                          if step not in run and slow_before(loop, step) <= set(run))
            self.assertEqual(check_unchanged(self, ready, loop, run, rounds), meant)

    def test_ready_edges(self):
        self.assertEqual(ready(PAIR, (), 0), ())
        self.assertEqual(ready(PAIR, (("a", 0), ("b", 0)), 1), ())
        self.assertEqual(ready(PAIR, (("a", 0), ("a", 1)), 1), (("b", 0),))
        self.assertEqual(ready(ALONE, (("a", 7),), 3), (("a", 0), ("a", 1), ("a", 2)))

    def test_order_by(self):
        rng = rng_of(64)
        for _ in range(150):
            loop = random_live_loop(rng, 4, 3, 3)
            rounds = rng.randrange(5)
            choices = [rng.randrange(30) for _ in range(rng.randrange(24))]
            if rng.randrange(2):
                choices = tuple(choices)
            order = check_unchanged(self, order_by, loop, rounds, choices)
            self.assertEqual(sorted(order), list(window(loop, rounds)))
            for at, step in enumerate(order):
                free = ready(loop, order[:at], rounds)
                self.assertEqual(step, free[choices[at] % len(free) if at < len(choices) else 0])

    def test_order_by_edges(self):
        self.assertEqual(order_by(PAIR, 0, (1, 2)), ())
        self.assertEqual(order_by(ALONE, 3, (5, 10 ** 20 + 1)), (("a", 2), ("a", 1), ("a", 0)))
        self.assertEqual(order_by(PAIR, 1, (9,) * 100), (("a", 0), ("b", 0)))
        self.assertEqual(len(order_by(BELT, 40, ())), 120)

    def test_all_orders(self):
        rng = rng_of(65)
        for _ in range(60):
            loop = random_live_loop(rng, 3, 2, 3)
            rounds = rng.randrange(7 // len(loop[0]) + 1)
            meant = [order for order in itertools.permutations(window(loop, rounds)) if self.is_order(loop, order)]
            self.assertEqual(orders_many(loop, rounds), len(meant))
            if len(meant) > 2000:
                self.assertRaises(TooMany, all_orders, loop, rounds)
            else:
                orders = check_unchanged(self, all_orders, loop, rounds)
                self.assertIs(type(orders), list)
                self.assertEqual(orders, sorted(meant))

    def is_order(self, loop, order):
        places = {step: at for at, step in enumerate(order)}
        return all(places[one] < places[other] for other in order for one in self.before(loop, other))

    def before(self, loop, step, known={}):
        if (loop, step) not in known:
            known[loop, step] = slow_before(loop, step)
        return known[loop, step]

    def test_no_rounds(self):
        for loop in (ALONE, PAIR, BELT):
            self.assertEqual(orders_many(loop, 0), 1)
            self.assertEqual(all_orders(loop, 0), [()])

    def test_many_orders_of_few_sets(self):
        chains = many_tasks([(1, [(0, 0, 1)]), (1, [(0, 0, 1)])])
        self.assertEqual(orders_many(chains, 40), 107507208733336176461620)
        self.assertEqual(len(all_orders(chains, 6)), 924)
        with self.assertRaises(TooMany) as caught:
            all_orders(chains, 7)
        self.assertEqual(caught.exception.most, 2000)

    def test_most_sets(self):
        right = many_tasks([(1, [(0, 0, 2)]), (1, [(0, 0, 2)]), (2, [(0, 1, 1), (1, 0, 2), (1, 1, 1)])])
        self.assertEqual(len(slow_sets(right, 7)), 20000)
        self.assertGreater(orders_many(right, 7), 2000)
        over = many_tasks([(3, [(0, 1, 0), (1, 0, 2), (1, 2, 3), (2, 1, 0)]),
                           (3, [(0, 0, 1), (0, 1, 2), (1, 1, 2), (1, 2, 0)])])
        self.assertEqual(len(slow_sets(over, 4)), 20001)
        with self.assertRaises(TooMany) as caught:
            orders_many(over, 4)
        self.assertEqual(caught.exception.most, 20000)
        self.assertIsInstance(orders_many(over, 3), int)

    def test_most_orders(self):
        right = many_tasks([(8, [(3, 1, 0), (3, 2, 0), (5, 0, 0), (6, 0, 0), (6, 1, 0), (6, 2, 0), (7, 2, 0)])])
        self.assertEqual(orders_many(right, 1), 2000)
        orders = all_orders(right, 1)
        self.assertEqual(len(orders), 2000)
        self.assertEqual(orders, sorted(set(orders)))
        over = many_tasks([(9, [(4, 0, 0), (4, 1, 0), (5, 2, 0), (6, 0, 0), (6, 2, 0), (7, 5, 0), (7, 6, 0), (8, 1, 0),
                                (8, 2, 0), (8, 3, 0), (8, 5, 0)])])
        self.assertEqual(orders_many(over, 1), 2001)
        with self.assertRaises(TooMany) as caught:
            all_orders(over, 1)
        self.assertEqual(caught.exception.most, 2000)

    def test_very_many(self):
        free = many_tasks([(10, [])])
        self.assertRaises(TooMany, orders_many, free, 40)
        self.assertRaises(TooMany, all_orders, free, 40)
        self.assertEqual(orders_many(free, 1), 3628800)

    def test_wide_windows(self):
        # As many sets as are seen at once, neither more nor less, decide; whatever is ready together.
        self.assertEqual(orders_many(many_tasks([(7, [])]), 2), math.factorial(14))
        self.assertRaises(TooMany, orders_many, many_tasks([(5, [])]), 3)
        names = "abcdefghij"
        rows = loop_of(*((name, []) for name in names), *((one, other, 1) for one in names for other in names))
        self.assertEqual(orders_many(rows, 19), math.factorial(10) ** 19)
        self.assertRaises(TooMany, orders_many, rows, 20)

    def test_sets_seen_at_once(self):
        rng = rng_of(65)
        alike = 0
        for _ in range(150):
            loop = random_live_loop(rng, 5, 2, 6)
            rounds = rng.randint(0, 3)
            if len(window(loop, rounds)) < 11:
                sets = len(slow_sets(loop, rounds))
                self.assertLessEqual(Window(loop, rounds).sets_at_least(), sets)
                alike += Window(loop, rounds).sets_at_least() == sets
        self.assertGreater(alike, 30)
        # Where all waits for all there are no other sets.
        names = "abcde"
        rows = loop_of(*((name, []) for name in names), *((one, other, 1) for one in names for other in names))
        for rounds in range(5):
            self.assertEqual(Window(rows, rounds).sets_at_least(), 1 + 31 * rounds)
        self.assertEqual(Window(many_tasks([(3, [])]), 4).sets_at_least(), 4096)

    def test_many_calls_that_raise(self):
        names = ("a", "abcdefghijkl", "at", "b", "iff", "mix", "pump", "rounds", "sum", "z")
        free = (tuple((name, 0, ("round",)) for name in names), ())
        # Counted set by set, these would take many minutes.
        for _ in range(1000):
            with self.assertRaises(TooMany) as caught:
                orders_many(free, 40)
            self.assertEqual(caught.exception.most, 20000)

    def test_sets_by_chance(self):
        rng = rng_of(64)
        for _ in range(40):
            loop = random_live_loop(rng, 5, 2, 5)
            rounds = rng.randint(2, 4)
            if len(window(loop, rounds)) > 12:
                continue
            # Each beginning has one ORDER at least: so the sets are counted ahead of what follows.
            steps = window(loop, rounds)
            ways = {frozenset(): 1}
            for done in sorted(slow_sets(loop, rounds) - {frozenset()}, key=len):
                ways[done] = sum(ways.get(done - {step}, 0) for step in done)
            self.assertEqual(orders_many(loop, rounds), ways[frozenset(steps)])

    def test_one_order_of_a_great_window(self):
        row = loop_of(*((name, [("abcdefghij"[at - 1], 0 if at else 1)]) for at, name in enumerate("abcdefghij")))
        self.assertEqual(orders_many(row, 40), 1)
        self.assertEqual(all_orders(row, 40), [order_by(row, 40, ())])

    def test_what_is_returned_is_new(self):
        orders = all_orders(PAIR, 2)
        orders.clear()
        self.assertEqual(len(all_orders(PAIR, 2)), 3)


if __name__ == "__main__":
    unittest.main()
