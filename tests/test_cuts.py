"""[32]: steps that are cut off, of a lot of tasks; what [5], [6] and [8] say of them."""

import itertools
import unittest

from slow import Slow, random_keeping
from support import ALONE, ANY, BELT, PAIR, check_truth, check_unchanged, loop_of, mangled, random_live_loop, rng_of
from support import window
from unwaited.cuts import cut_everywhere, fewest_for, first_wrong, free_to_cut, is_of_lot, is_right_for, played
from unwaited.cuts import price_of_cuts, shifts_for, wrong_cut_run
from unwaited.judged import is_right, losing_run_of
from unwaited.keepings import first_lost, found, longer
from unwaited.losing import losing_length
from unwaited.matchings import fewest_cells
from unwaited.runs import is_cut_run, order_by, whole_steps
from unwaited.turns import shifts

OWN = loop_of(("a", [("a", 1)]))
SUM = loop_of(("a", [("a", 1)]), ("b", [("a", 0), ("b", 1)]), ("a", "b", 1))


def lots_of_names(names):
    return [lot for many in range(len(names) + 1) for lot in itertools.combinations(names, many)]


def random_lot(rng, slow):
    return tuple(sorted(rng.sample(slow.names, rng.randint(0, len(slow.names)))))


def has_turn(slow, x, y, lot):
    """Whether x has its TURN ahead of y, by [32]: its STRICT one, if y's task is of the lot."""
    return slow.turn(x, y, y[0] in lot)


def clashes(slow, keeping, lot, rounds):
    steps = slow.kept(keeping, rounds)
    return [(x, y) for x, y in itertools.combinations(steps, 2) if slow.cell(keeping, x) == slow.cell(keeping, y)
            and not has_turn(slow, x, y, lot) and not has_turn(slow, y, x, lot)]


def played_as_said(slow, keeping, cut_run):
    written, told = {}, []
    for step, is_whole in cut_run:
        finds = []
        for name, d in sorted(slow.reads[step[0]]):
            if step[1] - d >= 0 and slow.cell(keeping, (name, step[1] - d)) is not None:
                finds.append((name, d, written[slow.cell(keeping, (name, step[1] - d))]))
        told.append((step, is_whole, tuple(finds)))
        if step[0] in slow.readers and slow.cell(keeping, step) is not None:
            written[slow.cell(keeping, step)] = step
    return tuple(told)


def is_wrong(finds, at):
    return any(there != (name, at - d) for name, d, there in finds)


def fewest_items(slow, keeping, lot, rounds):
    """The fewest items of a CUT RUN of the lot at whose end something is wrong, by what must stand in it: x and y with
    one CELL and a reader r of x behind y; all rounds below this number."""
    best = None
    steps = slow.kept(keeping, rounds)
    for x, y in itertools.permutations(steps, 2):
        if slow.cell(keeping, x) != slow.cell(keeping, y) or y in slow.before(x):
            continue
        for name, d in slow.readers[x[0]]:
            reader = (name, x[1] + d)
            if reader == y and y[0] in lot:
                many = len(slow.before(y)) + 2
            elif reader != y and reader not in slow.before(y):
                many = len(slow.closed(y, reader))
            else:
                continue
            best = many if best is None else min(best, many)
    return best


class Lots(unittest.TestCase):
    def test_is_of_lot(self):
        run = ((("a", 0), False), (("a", 0), True), (("b", 0), True), (("a", 1), True))
        self.assertEqual([is_of_lot(SUM, lot, run) for lot in ((), ("a",), ("b",), ("a", "b"))],
                         [False, True, False, True])
        self.assertEqual([is_of_lot(SUM, lot, ()) for lot in ((), ("a",), ("a", "b"))], [True, True, True])
        whole = ((("a", 0), True), (("b", 0), True))
        self.assertEqual([is_of_lot(SUM, lot, whole) for lot in ((), ("a",))], [True, True])
        for lot in lots_of_names(("a", "b")):
            for thing in ANY + mangled(run) + mangled(whole):
                right = is_cut_run(SUM, thing) and {step[0] for step, is_whole in thing if not is_whole} <= set(lot)
                check_truth(self, is_of_lot(SUM, lot, thing), right, thing)

    def test_cut_everywhere(self):
        rng = rng_of(321)
        for _ in range(100):
            slow = Slow(random_live_loop(rng, 4, 2, 4))
            run = order_by(slow.loop, 3, [rng.randrange(9) for _ in range(9)])
            lot = random_lot(rng, slow)
            cut_run = check_unchanged(self, cut_everywhere, slow.loop, lot, run)
            self.assertIs(is_of_lot(slow.loop, lot, cut_run), True)
            self.assertEqual(whole_steps(cut_run), run)
            expected = []
            for step in run:
                expected += [(step, False), (step, True)] if step[0] in lot else [(step, True)]
            self.assertEqual(cut_run, tuple(expected))
        self.assertEqual(cut_everywhere(SUM, ("a",), ()), ())

    def random_cut_run(self, rng, slow, lot, many):
        done, items = set(), []
        while len(items) < many:
            free = [step for step in window(slow.loop, 6) if step not in done and slow.before(step) <= done]
            if not free:
                break
            step = rng.choice(free)
            is_whole = step[0] not in lot or rng.random() < 0.5
            items.append((step, is_whole))
            done |= {step} if is_whole else set()
        return tuple(items)

    def test_played(self):
        rng = rng_of(322)
        wrong = 0
        for _ in range(300):
            slow = Slow(random_live_loop(rng, 4, 2, 4))
            keeping = random_keeping(rng, slow.read_names, 3, 3, 0.3)
            lot = random_lot(rng, slow)
            cut_run = self.random_cut_run(rng, slow, lot, 20)
            self.assertIs(is_of_lot(slow.loop, lot, cut_run), True)
            told = check_unchanged(self, played, slow.loop, keeping, cut_run)
            self.assertEqual(told, played_as_said(slow, keeping, cut_run))
            places = [place for place, (step, _, finds) in enumerate(told) if is_wrong(finds, step[1])]
            first = check_unchanged(self, first_wrong, slow.loop, keeping, cut_run)
            self.assertEqual(first, places[0] if places else None)
            wrong += first is not None
            run = whole_steps(cut_run)
            as_cut = tuple((step, True) for step in run)
            self.assertEqual([(step, finds) for step, _, finds in played(slow.loop, keeping, as_cut)],
                             list(found(slow.loop, keeping, run)))
            self.assertEqual(first_wrong(slow.loop, keeping, as_cut), first_lost(slow.loop, keeping, run))
        self.assertGreater(wrong, 80)

    def test_a_step_that_reads_and_writes(self):
        keeping = (1, {"a": (0,)})
        one = ((("a", 0), False), (("a", 0), False), (("a", 0), True), (("a", 1), True))
        self.assertIsNone(first_wrong(OWN, keeping, one))
        # Cut off many times, and at the end: the second time (a, 1) finds itself.
        for times in (1, 2, 5):
            again = one[:3] + ((("a", 1), False),) * times
            self.assertEqual(first_wrong(OWN, keeping, again), None if times == 1 else 4)
        self.assertEqual(played(OWN, keeping, one[2:3] + ((("a", 1), False),) * 2)[1:],
                         ((("a", 1), False, (("a", 1, ("a", 0)),)), (("a", 1), False, (("a", 1, ("a", 1)),))))
        self.assertEqual([played(OWN, keeping, ()), first_wrong(OWN, keeping, ())], [(), None])


class Right(unittest.TestCase):
    def some(self, number, many, tasks=4, most=2, waits=5):
        rng = rng_of(number)
        for _ in range(many):
            slow = Slow(random_live_loop(rng, tasks, most, waits))
            keeping = random_keeping(rng, slow.read_names, rng.choice((1, 1, 2, 3)), rng.choice((1, 3, 6)),
                                     rng.choice((0, 0.3, 0.8)))
            yield rng, slow, keeping, random_lot(rng, slow)

    def test_as_said(self):
        told = {False: 0, True: 0}
        for _, slow, keeping, lot in self.some(323, 500):
            right = check_unchanged(self, is_right_for, slow.loop, lot, keeping)
            check_truth(self, right, not clashes(slow, keeping, lot, 3 * keeping[0] + 2), (slow.loop, lot, keeping))
            told[right] += 1
            for each, is_cut in (((), False), (tuple(slow.names), True)):
                self.assertIs(is_right_for(slow.loop, each, keeping), is_right(slow.loop, keeping, is_cut))
        self.assertGreater(min(told.values()), 100)

    def test_for_one_lot_and_not_for_another(self):
        keeping = (1, {"a": (0,), "b": (1,)})
        self.assertEqual([is_right_for(SUM, lot, keeping) for lot in lots_of_names(("a", "b"))],
                         [True, False, False, False])
        mixed = 0
        for _, slow, keeping, _ in self.some(324, 300, 3):
            told = [is_right_for(slow.loop, lot, keeping) for lot in lots_of_names(slow.names)]
            # Whose tasks may be cut off one by one may be so together.
            for lot in lots_of_names(slow.names):
                self.assertIs(is_right_for(slow.loop, lot, keeping),
                              told[0] and all(is_right_for(slow.loop, (name,), keeping) for name in lot))
            mixed += told[0] and not told[-1]
        self.assertGreater(mixed, 20)

    def test_all_cut_runs_of_few_items(self):
        # [5], [8]: with few items nothing is wrong if it is RIGHT; and the shortest one is as short as is told.
        told = {False: 0, True: 0}
        for _, slow, keeping, lot in self.some(325, 250, 3, 2, 4):
            shortest = check_unchanged(self, wrong_cut_run, slow.loop, lot, keeping)
            right = is_right_for(slow.loop, lot, keeping)
            self.assertIs(shortest is None, right)
            wrong = [items for items in slow.all_runs(window(slow.loop, 3), 4, True)
                     if items and all(is_whole or step[0] in lot for step, is_whole in items)
                     and slow.loses(keeping, items)]
            if wrong:
                self.assertLessEqual(len(shortest), len(wrong[0]))
                if max(at for (_, at), _ in shortest) < 3:
                    self.assertEqual(len(shortest), len(wrong[0]))
                told[any(not is_whole for _, is_whole in wrong[0])] += 1
            elif shortest is not None:
                self.assertTrue(len(shortest) > 4 or max(at for (_, at), _ in shortest) >= 3)
        self.assertGreater(min(told.values()), 5)

    def test_wrong_cut_runs(self):
        cut = 0
        for _, slow, keeping, lot in self.some(326, 500):
            run = wrong_cut_run(slow.loop, lot, keeping)
            if run is not None:
                self.assertIs(is_of_lot(slow.loop, lot, run), True)
                self.assertEqual(first_wrong(slow.loop, keeping, run), len(run) - 1)
                self.assertEqual(len(run), fewest_items(slow, keeping, lot, 3 * keeping[0] + 2), (slow.loop, lot, keeping))
                cut += any(not is_whole for _, is_whole in run)
        self.assertGreater(cut, 60)

    def test_without_a_lot_as_without_cuts(self):
        for _, slow, keeping, _ in self.some(327, 150):
            run = losing_run_of(slow.loop, keeping)
            cut_run = wrong_cut_run(slow.loop, (), keeping)
            self.assertEqual(run is None, cut_run is None)
            if run is not None:
                self.assertEqual(len(run), len(cut_run))
                self.assertTrue(all(is_whole for _, is_whole in cut_run))

    def test_as_long_as_losing_runs(self):
        # For one CELL of two STEPS alone, with all names: that of [22].
        rng = rng_of(328)
        many = 0
        for _ in range(200):
            slow = Slow(random_live_loop(rng, 3, 2, 4))
            if slow.read_names:
                lot = tuple(slow.names)
                steps = [(name, at) for name in slow.read_names for at in range(3)]
                one, other = rng.choice(steps), rng.choice(steps)
                if one != other:
                    rows = {name: [None] * 12 for name in slow.read_names}
                    rows[one[0]][one[1]] = rows[other[0]][other[1]] = 0
                    keeping = (12, {name: tuple(row) for name, row in rows.items()})
                    length = losing_length(slow.loop, one, other, True)
                    run = wrong_cut_run(slow.loop, lot, keeping)
                    if length is not None:
                        self.assertLessEqual(len(run), length)
                        many += len(run) == length
        self.assertGreater(many, 50)

    def test_a_later_step_that_reads_itself(self):
        # Shorter by one item than what the first two STEPS that clash come to.
        cycle = [("a", [("b", 0)]), ("b", [("a", 2)])]
        for loop, lot, keeping, many in (
                (loop_of(*cycle), ("a", "b"), (2, {"a": (0, 0), "b": (None, 0)}), 3),
                (loop_of(*cycle, ("b", "b", 2)), ("a", "b"), (3, {"a": (2, 2, 1), "b": (None, 0, 2)}), 4),
                (loop_of(("a", [("a", 2)]), ("b", [("a", 0), ("b", 2)])), ("b",), (1, {"a": (None,), "b": (0,)}), 5),
                (loop_of(("a", [("b", 0)]), ("b", []), ("c", [("a", 0), ("b", 1), ("c", 2)]), ("b", "c", 2)), ("c",),
                 (3, {"a": (None, 0, None), "b": (None, 1, 1), "c": (0, 0, 1)}), 5)):
            run = wrong_cut_run(loop, lot, keeping)
            self.assertEqual([len(run), fewest_items(Slow(loop), keeping, lot, 12)], [many, many])
            self.assertEqual(first_wrong(loop, keeping, run), many - 1)
            self.assertEqual([run[-2][0], run[-2][1]], [run[-1][0], False])

    def test_periods_to_12(self):
        rng = rng_of(329)
        for _ in range(25):
            slow = Slow(random_live_loop(rng, 4, 3, 6))
            rows = {name: tuple(rng.choice((0, 1, 2, None)) for _ in range(12)) for name in slow.read_names}
            had = sorted({cell for row in rows.values() for cell in row if cell is not None})
            keeping = (12, {name: tuple(None if cell is None else had.index(cell) for cell in row)
                            for name, row in rows.items()})
            lot = random_lot(rng, slow)
            run = wrong_cut_run(slow.loop, lot, keeping)
            self.assertIs(run is None, is_right_for(slow.loop, lot, keeping))
            if run is not None:
                self.assertEqual(len(run), fewest_items(slow, keeping, lot, 26))
        self.assertIs(is_right_for(OWN, ("a",), longer((2, {"a": (0, 1)}), 30)), True)
        self.assertIs(is_right_for(OWN, ("a",), (60, {"a": (0, 1) * 29 + (0, 0)})), False)

    def test_nothing_kept(self):
        for lot in ((), ("a",)):
            self.assertIs(is_right_for(ALONE, lot, (1, {})), True)
            self.assertIsNone(wrong_cut_run(ALONE, lot, (12, {})))
            self.assertIs(is_right_for(PAIR, lot, (2, {"a": (None, None)})), True)


class Cells(unittest.TestCase):
    def test_shifts(self):
        rng = rng_of(330)
        many = 0
        for _ in range(80):
            slow = Slow(random_live_loop(rng, 4, 2, 6))
            lot = random_lot(rng, slow)
            told = check_unchanged(self, shifts_for, slow.loop, lot)
            self.assertEqual(list(told), [(a, b) for a in slow.read_names for b in slow.read_names])
            for (a, b), s in told.items():
                self.assertEqual(s, slow.shift(a, b, b in lot, 40))
                many += s is not None and s != slow.shift(a, b, b not in lot, 40)
            without = shifts_for(slow.loop, ())
            self.assertEqual({couple: s for couple, s in without.items() if s is not None}, shifts(slow.loop, False))
            whole = shifts_for(slow.loop, tuple(slow.names))
            self.assertEqual({couple: s for couple, s in whole.items() if s is not None}, shifts(slow.loop, True))
        self.assertGreater(many, 20)
        self.assertEqual(shifts_for(PAIR, ("b",)), {("a", "a"): None})
        self.assertEqual(shifts_for(ALONE, ("a",)), {})

    def fewest_as_said(self, slow, lot):
        best = None
        told = shifts_for(slow.loop, lot)
        for values in itertools.permutations(slow.read_names):
            couples = list(zip(slow.read_names, values))
            if all(told[couple] is not None for couple in couples):
                cells = sum(told[couple] for couple in couples)
                best = cells if best is None else min(best, cells)
        return best

    def test_fewest(self):
        # [6], [8]: there is one for each lot, or for none; and it grows with the lot.
        rng = rng_of(331)
        kinds = {False: 0, True: 0}
        for _ in range(100):
            slow = Slow(random_live_loop(rng, 4, 2, 8))
            told = {lot: check_unchanged(self, fewest_for, slow.loop, lot) for lot in lots_of_names(slow.names)}
            for lot, many in told.items():
                self.assertEqual(many, self.fewest_as_said(slow, lot))
                self.assertEqual(many is None, told[()] is None)
                if many is not None and lot:
                    self.assertGreaterEqual(many, told[lot[1:]])
            price = check_unchanged(self, price_of_cuts, slow.loop)
            self.assertEqual(price, (told[()], told[tuple(slow.names)]))
            self.assertEqual(price, (fewest_cells(slow.loop, False), fewest_cells(slow.loop, True)))
            free = check_unchanged(self, free_to_cut, slow.loop)
            self.assertEqual(free, tuple(name for name in slow.names if told[()] is not None
                                         and told[(name,)] == told[()]))
            kinds[told[()] is None] += 1
        self.assertGreater(min(kinds.values()), 20)

    def test_free_to_cut(self):
        self.assertEqual(free_to_cut(PAIR), ())
        self.assertEqual(free_to_cut(ALONE), ("a",))
        self.assertEqual(price_of_cuts(ALONE), (0, 0))
        # c is read by nobody: it may be cut off for nothing.
        self.assertEqual(price_of_cuts(BELT), (8, 11))
        self.assertEqual(fewest_for(BELT, ("c",)), 8)
        self.assertIn("c", free_to_cut(BELT))
        back = loop_of(("a", [("a", 1)]), ("b", [("a", 0)]), ("a", "b", 1))
        self.assertEqual([price_of_cuts(back), free_to_cut(back)], [(1, 2), ("b",)])


if __name__ == "__main__":
    unittest.main()
