"""[24]: KEEPINGS that are RIGHT, or not; the guarantee [5], and [8] of cuts."""

import itertools
import unittest

from slow import Slow, random_keeping
from support import ALONE, ANY, PAIR, check_truth, check_unchanged, loop_of, mangled, random_live_loop, rng_of
from support import window
from unwaited.judged import are_turn_lists, closed_rows, first_clash, is_clash, is_right, losing_run_of, turn_lists
from unwaited.keepings import cells_many, first_lost, longer
from unwaited.losing import is_losing_run, losing_length, losing_run
from unwaited.runs import all_orders, is_run

GREAT = 10 ** 40 - 1
CHAIN = loop_of(("a", []), ("b", [("a", 0)]), ("c", [("b", 0), ("c", 1)]), ("a", "c", 1))
OWN = loop_of(("a", [("a", 1)]))


def some_loops(number, many, tasks=4, most=2, waits=4):
    """LOOPS with READ tasks and KEEPINGS of them, some of which are RIGHT."""
    rng = rng_of(number)
    for _ in range(many):
        loop = random_live_loop(rng, tasks, most, waits)
        slow = Slow(loop)
        yield slow, random_keeping(rng, slow.read_names, rng.choice((1, 1, 2, 3)), rng.choice((1, 3, 9)),
                                   rng.choice((0, 0.3, 0.8)))


def are_lists_as_said(slow, keeping, is_cut, thing):
    """[24] once more."""
    if type(thing) is not tuple or len(thing) != cells_many(keeping):
        return False
    for cell, steps in enumerate(thing):
        if type(steps) is not tuple:
            return False
        for step in steps:
            if type(step) is not tuple or [type(part) for part in step] != [str, int]:
                return False
        if sorted(steps) != sorted(step for step in slow.kept(keeping, keeping[0]) if slow.cell(keeping, step) == cell):
            return False
        moved = (steps[0][0], steps[0][1] + keeping[0])
        if not all(slow.turn(one, other, is_cut) for one, other in zip(steps, steps[1:] + (moved,))):
            return False
    return True


def shortest_loss(slow, keeping, rounds):
    """The fewest STEPS of a RUN in which something is lost, x, y and the reader having rounds below this number."""
    best = None
    steps = slow.kept(keeping, rounds)
    for x, y in itertools.permutations(steps, 2):
        if slow.cell(keeping, x) == slow.cell(keeping, y) and y not in slow.before(x):
            for name, d in slow.readers[x[0]]:
                reader = (name, x[1] + d)
                if reader != y and reader not in slow.before(y):
                    many = len(slow.closed(y, reader))
                    best = many if best is None or many < best else best
    return best


class Right(unittest.TestCase):
    def test_right_by_chance(self):
        counts = {False: 0, True: 0}
        for slow, keeping in some_loops(241, 300):
            for is_cut in (False, True):
                clashes = slow.clashes(keeping, is_cut, 2 * keeping[0])
                right = is_right(slow.loop, keeping, is_cut)
                check_truth(self, right, not clashes, (slow.loop, keeping, is_cut))
                self.assertEqual(first_clash(slow.loop, keeping, is_cut), clashes[0] if clashes else None)
                lists = check_unchanged(self, turn_lists, slow.loop, keeping, is_cut)
                self.assertEqual(lists is not None, right)
                if right:
                    self.assertIs(are_lists_as_said(slow, keeping, is_cut, lists), True)
                    self.assertIs(are_turn_lists(slow.loop, keeping, is_cut, lists), True)
                counts[right] += 1
        self.assertGreater(min(counts.values()), 60)

    def test_no_clash_later_than_twice_the_period(self):
        for slow, keeping in some_loops(242, 60):
            for is_cut in (False, True):
                if slow.clashes(keeping, is_cut, 4 * keeping[0] + 4):
                    self.assertIs(is_right(slow.loop, keeping, is_cut), False)

    def test_what_right_means(self):
        # All RUNS of few STEPS, cut off or not: nothing is lost if it is RIGHT; and if not, something is in some RUN.
        told = {False: 0, True: 0}
        for slow, keeping in some_loops(243, 60, 3, 2, 4):
            for is_cut in (False, True):
                right = is_right(slow.loop, keeping, is_cut)
                lost = [items for items in slow.all_runs(window(slow.loop, 4), 4 if is_cut else 5, is_cut)
                        if items and slow.loses(keeping, items)]
                if lost:
                    self.assertIs(right, False)
                    told[is_cut] += 1
                if not right:
                    one, other = first_clash(slow.loop, keeping, is_cut)
                    run = losing_run(slow.loop, one, other, is_cut)
                    self.assertTrue(slow.loses(keeping, run if is_cut else [(step, True) for step in run]))
        self.assertGreater(min(told.values()), 15)

    def test_all_orders_of_a_right_one(self):
        for keeping in ((1, {"a": (0,), "b": (0,), "c": (1,)}), (2, {"a": (1, None), "b": (1, None), "c": (None, 0)})):
            self.assertIs(is_right(CHAIN, keeping, False), True)
            for order in all_orders(CHAIN, 4):
                self.assertIsNone(first_lost(CHAIN, keeping, order))
        self.assertTrue(any(first_lost(CHAIN, (1, {"a": (0,), "b": (0,), "c": (0,)}), order) is not None
                            for order in all_orders(CHAIN, 4)))

    def test_right_without_cuts_alone(self):
        one = (1, {"a": (0,)})
        self.assertEqual([is_right(OWN, one, False), is_right(OWN, one, True)], [True, False])
        self.assertEqual([first_clash(OWN, one, False), first_clash(OWN, one, True)], [None, (("a", 0), ("a", 1))])
        self.assertEqual([turn_lists(OWN, one, False), turn_lists(OWN, one, True)], [((("a", 0),),), None])
        self.assertIs(is_right(OWN, (2, {"a": (0, 1)}), True), True)
        self.assertEqual(turn_lists(OWN, (2, {"a": (1, 0)}), True), ((("a", 1),), (("a", 0),)))

    def test_nothing_kept(self):
        for is_cut in (False, True):
            for loop, keeping in ((ALONE, (1, {})), (ALONE, (60, {})), (ALONE, (GREAT, {})), (PAIR, (3, {"a": (None,) * 3}))):
                self.assertIs(is_right(loop, keeping, is_cut), True)
                self.assertEqual(turn_lists(loop, keeping, is_cut), ())
                self.assertIs(are_turn_lists(loop, keeping, is_cut, ()), True)
                self.assertIs(are_turn_lists(loop, keeping, is_cut, ((),)), False)
                self.assertIsNone(first_clash(loop, keeping, is_cut))
            self.assertIsNone(losing_run_of(ALONE, (12, {})))

    def test_several_of_one_round(self):
        row = loop_of(("a", []), ("b", [("c", 0)]), ("c", [("a", 0)]), ("d", [("b", 0)]), ("a", "d", 1))
        keeping = (1, {"a": (0,), "b": (0,), "c": (0,)})
        self.assertEqual(turn_lists(row, keeping, False), ((("a", 0), ("c", 0), ("b", 0)),))
        self.assertIs(are_turn_lists(row, keeping, False, ((("a", 0), ("b", 0), ("c", 0)),)), False)
        self.assertIsNone(turn_lists(row, keeping, True))
        self.assertEqual(turn_lists(row, longer(keeping, 2), False),
                         ((("a", 0), ("c", 0), ("b", 0), ("a", 1), ("c", 1), ("b", 1)),))

    def test_a_long_period(self):
        keeping = longer((2, {"a": (0, 1)}), 30)
        self.assertIs(is_right(OWN, keeping, True), True)
        self.assertEqual(turn_lists(OWN, keeping, True)[1], tuple(("a", at) for at in range(1, 60, 2)))
        last = (60, {"a": keeping[1]["a"][:59] + (0,)})
        self.assertEqual(first_clash(OWN, last, True), (("a", 58), ("a", 59)))
        self.assertIs(is_right(OWN, longer(keeping, 3000), True), True)

    def test_order_of_keys_and_new_lists(self):
        turned = (1, {"c": (1,), "b": (0,), "a": (0,)})
        self.assertEqual(turn_lists(CHAIN, turned, False), ((("a", 0), ("b", 0)), (("c", 0),)))
        self.assertIs(is_right(CHAIN, turned, True), False)


class Papers(unittest.TestCase):
    def test_order_in_which_clashes_are_looked_for(self):
        free = loop_of(("a", []), ("b", []), ("c", []), ("d", [("a", 0), ("b", 0), ("c", 0)]))
        self.assertEqual(first_clash(free, (1, {"a": (0,), "b": (0,), "c": (0,)}), False), (("a", 0), ("b", 0)))
        self.assertEqual(first_clash(free, (1, {"a": (1,), "b": (0,), "c": (0,)}), False), (("b", 0), ("c", 0)))
        # The least round of other decides, then its name, then the round of one, then its name.
        self.assertEqual(first_clash(free, (3, {"a": (None, None, 0), "b": (1, None, 0), "c": (0, None, 1)}), False),
                         (("c", 0), ("a", 2)))
        self.assertEqual(first_clash(free, (2, {"a": (0, None), "b": (1, None), "c": (None, 1)}), False),
                         (("b", 0), ("c", 1)))
        self.assertEqual(first_clash(free, (3, {"a": (1, None, 0), "b": (None, 0, 0), "c": (0, None, None)}), False),
                         (("c", 0), ("b", 1)))
        self.assertEqual(first_clash(free, (2, {"a": (0, None), "b": (1, None), "c": (2, None)}), False),
                         (("a", 0), ("a", 2)))

    def test_clashes_by_chance(self):
        told = 0
        for slow, keeping in some_loops(244, 60, 3, 2, 4):
            steps = window(slow.loop, 4)
            for is_cut in (False, True):
                right = slow.clashes(keeping, is_cut, 4)
                for couple in itertools.product(steps, steps):
                    check_truth(self, is_clash(slow.loop, keeping, is_cut, couple), couple in right, (keeping, couple))
                told += len(right)
        self.assertGreater(told, 100)

    def test_any_value_as_clash(self):
        keeping = (1, {"a": (0,), "b": (0,), "c": (0,)})
        clash = (("c", 0), ("a", 1))
        self.assertIs(is_clash(CHAIN, keeping, False, clash), True)
        self.assertIs(is_clash(CHAIN, (1, {"a": (0,), "b": (0,), "c": (1,)}), False, clash), False)
        self.assertIs(is_clash(CHAIN, (1, {"a": (0,), "b": (0,), "c": (None,)}), False, clash), False)
        self.assertIs(is_clash(CHAIN, keeping, False, clash[::-1]), False)
        self.assertIs(is_clash(PAIR, (1, {"a": (0,)}), False, (("b", 0), ("b", 1))), False)
        self.assertIs(is_clash(PAIR, (1, {"a": (0,)}), False, (("a", 3), ("a", GREAT))), True)
        self.assertIs(is_clash(OWN, (1, {"a": (0,)}), True, (("a", GREAT - 1), ("a", GREAT))), True)
        self.assertIs(is_clash(OWN, (1, {"a": (0,)}), True, (("a", GREAT - 2), ("a", GREAT))), False)
        self.assertIs(is_clash(OWN, (1, {"a": (0,)}), True, (("a", 0), ("a", True))), False)
        slow = Slow(CHAIN)
        for thing in [*ANY, *mangled(clash)]:
            right = type(thing) is tuple and len(thing) == 2 and all(
                type(step) is tuple and [type(part) for part in step] == [str, int] and step[0] in slow.readers
                and step[1] >= 0 for step in thing) and (thing[0][1], thing[0][0]) < (thing[1][1], thing[1][0])
            if right and thing[1][1] < 99:
                right = slow.clash(*thing, False)
            elif right:
                # Each task leads back to each other one, so nothing clashes that is far apart.
                right = False
            check_truth(self, is_clash(CHAIN, keeping, False, thing), right, thing)

    def test_any_value_as_turn_lists(self):
        keeping = (2, {"a": (0, 0), "b": (0, 2), "c": (1, 1)})
        lists = turn_lists(CHAIN, keeping, False)
        self.assertEqual(lists, ((("a", 0), ("b", 0), ("a", 1)), (("c", 0), ("c", 1)), (("b", 1),)))
        slow = Slow(CHAIN)
        for thing in [*ANY, lists, *mangled(lists), lists[::-1], lists[:2], lists + ((),), ((), *lists[1:])]:
            check_truth(self, are_turn_lists(CHAIN, keeping, False, thing),
                        are_lists_as_said(slow, keeping, False, thing), thing)
            self.assertIs(are_turn_lists(CHAIN, keeping, True, thing), False)
        self.assertIs(are_turn_lists(CHAIN, keeping, False, ((("a", 0), ("b", 0), ("a", True)),) + lists[1:]), False)
        self.assertIs(are_turn_lists(CHAIN, keeping, False, ((("a", 0), ("b", 0), ("a", 3)),) + lists[1:]), False)

    def test_losing_runs_by_chance(self):
        lost = 0
        far = 0
        for slow, keeping in some_loops(245, 300):
            run = losing_run_of(slow.loop, keeping)
            if is_right(slow.loop, keeping, False):
                self.assertIsNone(run)
                continue
            self.assertIs(is_run(slow.loop, run), True)
            self.assertEqual(first_lost(slow.loop, keeping, run), len(run) - 1)
            self.assertEqual(len(run), shortest_loss(slow, keeping, 3 * keeping[0] + 8))
            lost += 1
            one, other = first_clash(slow.loop, keeping, False)
            far += len(run) < losing_length(slow.loop, one, other, False)
        self.assertGreater(lost, 100)
        self.assertGreater(far, 2)

    def test_shortest_of_all_runs(self):
        lost = 0
        for slow, keeping in some_loops(246, 120, 3, 2, 4):
            run = losing_run_of(slow.loop, keeping)
            if run is not None and len(run) < 7:
                best = next(items for items in slow.all_runs(window(slow.loop, 6), len(run), False)
                            if items and slow.loses(keeping, items))
                self.assertEqual(len(run), len(best))
                lost += 1
        self.assertGreater(lost, 30)

    def test_far_on(self):
        # What is farther on, x, y or the reader, can need less than what is near: it may need the same as the others,
        # or not have its TURN where the near ones have theirs.
        none = (None,)
        for loop, keeping, fewest in (
                (loop_of(("c", [("c", 1)]), ("f", [("h", 3)]), ("h", []), ("f", "f", 2), ("h", "c", 1), ("h", "f", 3),
                         ("h", "h", 2), ("h", "h", 3)), (4, {"c": (0,) + none * 3, "h": none * 2 + (0,) + none}), 8),
                (loop_of(("f", [("f", 1)]), ("i", [("j", 1), ("j", 0)]), ("j", []), ("i", "i", 1), ("j", "f", 1)),
                 (5, {"f": (0,) + none * 4, "j": none * 2 + (0,) + none * 2}), 8),
                (loop_of(("d", []), ("f", []), ("j", [("f", 5), ("d", 2)]), ("d", "j", 0), ("f", "d", 1), ("j", "d", 1)),
                 (4, {"d": (0,) + none * 3, "f": none * 3 + (0,)}), 16),
                (loop_of(("c", []), ("e", [("i", 3)]), ("i", []), ("e", "c", 0), ("e", "i", 0), ("i", "c", 3)),
                 (2, {"i": none + (0,)}), 6),
                (loop_of(("b", []), ("c", [("e", 2)]), ("e", []), ("b", "e", 2), ("c", "b", 0), ("e", "b", 0)),
                 (5, {"e": none * 3 + (0,) + none}), 15),
                (loop_of(("a", []), ("e", [("h", 1)]), ("h", []), ("e", "a", 0), ("h", "a", 1), ("h", "h", 2)),
                 (3, {"h": none * 2 + (0,)}), 10),
                (loop_of(("a", [("j", 0)]), ("d", [("d", 2)]), ("i", [("a", 1)]), ("j", [("i", 0)]), ("d", "a", 0)),
                 (1, {"a": none, "d": (0,), "i": (0,), "j": (0,)}), 6),
                (loop_of(("c", [("c", 1)]), ("d", [("d", 3)]), ("i", []), ("c", "i", 1), ("c", "i", 3), ("d", "c", 0),
                         ("d", "i", 1)), (4, {"c": (0,) + none * 3, "d": none * 2 + (0, 0)}), 12),
                (loop_of(("a", [("d", 0)]), ("c", [("a", 0), ("c", 1), ("c", 2), ("j", 1)]), ("d", [("a", 1), ("a", 2)]),
                         ("g", [("j", 2)]), ("j", []), ("a", "d", 2), ("a", "g", 0), ("c", "d", 1), ("j", "g", 0)),
                 (1, {"a": none, "c": (0,), "d": (0,), "j": none}), 7),
                (loop_of(("f", [("i", 3)]), ("i", []), ("f", "i", 0), ("i", "i", 3)), (2, {"i": none + (0,)}), 4),
                (loop_of(("d", [("f", 2)]), ("f", []), ("d", "d", 2), ("d", "f", 0), ("d", "f", 2), ("f", "f", 2)),
                 (5, {"f": none * 3 + (0,) + none}), 10),
                (loop_of(("c", []), ("f", [("c", 4)]), ("c", "c", 4), ("f", "c", 0), ("f", "c", 4)),
                 (6, {"c": none * 4 + (0,) + none}), 6)):
            run = losing_run_of(loop, keeping)
            self.assertEqual([len(run), shortest_loss(Slow(loop), keeping, 40)], [fewest, fewest])
            self.assertIs(is_run(loop, run), True)
            self.assertEqual(first_lost(loop, keeping, run), fewest - 1)

    def test_few_kept_steps(self):
        # Few STEPS with one CELL: so what is lost soonest may be far on.
        rng = rng_of(250)
        for _ in range(700):
            loop = random_live_loop(rng, rng.randint(2, 4), rng.choice((1, 2, 3, 4)), rng.randint(0, 6))
            slow = Slow(loop)
            if not slow.read_names:
                continue
            period = rng.randint(1, 5)
            rows = {name: [None] * period for name in slow.read_names}
            for _ in range(rng.randint(1, 3)):
                rows[rng.choice(slow.read_names)][rng.randrange(period)] = 0
            keeping = (period, {name: tuple(row) for name, row in rows.items()})
            run = losing_run_of(loop, keeping)
            rounds = 2 * period + len(loop[0]) * max((d for _, _, d in slow.arcs), default=0)
            self.assertEqual(None if run is None else len(run), shortest_loss(slow, keeping, rounds), (loop, keeping))
            if run is not None:
                self.assertEqual(first_lost(loop, keeping, run), len(run) - 1)

    def test_what_is_looked_at(self):
        # All sets with few members of tasks to which RINGS lead, however far; of the others as far as is asked.
        rng = rng_of(249)
        ringless = 0
        for _ in range(60):
            loop = random_live_loop(rng, 4, 3, 4)
            slow = Slow(loop)
            most, rounds = rng.randint(0, 9), rng.randint(0, 6)
            rows = closed_rows(loop, most, rounds)
            self.assertEqual(sorted(rows), slow.names)
            for name, row in rows.items():
                for at, (size, _) in enumerate(row):
                    self.assertEqual(size, len(slow.closed((name, at))))
                if len(row) < rounds or len(slow.closed((name, 99))) > 15:
                    self.assertGreater(len(slow.closed((name, len(row)))), most)
                else:
                    ringless += 1
        self.assertGreater(ringless, 10)

    def test_periods_up_to_twelve(self):
        rng = rng_of(247)
        for _ in range(25):
            loop = random_live_loop(rng, 5, 3, 6)
            slow = Slow(loop)
            period = rng.randint(9, 12)
            rows = {name: [None] * period for name in slow.read_names}
            for row in rows.values():
                for _ in range(rng.randint(0, 2)):
                    row[rng.randrange(period)] = 0
            if not any(0 in row for row in rows.values()):
                continue
            keeping = (period, {name: tuple(row) for name, row in rows.items()})
            run = losing_run_of(loop, keeping)
            best = shortest_loss(slow, keeping, 3 * period)
            if run is None:
                self.assertIsNone(best)
                self.assertIs(is_right(loop, keeping, False), True)
            else:
                self.assertEqual(len(run), best)
                self.assertEqual(first_lost(loop, keeping, run), len(run) - 1)

    def test_losing_run_is_one_of_two_steps(self):
        for slow, keeping in some_loops(248, 60):
            run = losing_run_of(slow.loop, keeping)
            if run is not None:
                kept = slow.kept(keeping, 40)
                self.assertTrue(any(is_losing_run(slow.loop, one, other, False, run)
                                    for one, other in itertools.combinations([step for step in run if step in kept], 2)
                                    if slow.cell(keeping, one) == slow.cell(keeping, other)))


if __name__ == "__main__":
    unittest.main()
