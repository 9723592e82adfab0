"""[31]: LOOPS that are done for so many rounds alone; what [5] and [8] say of their CELLS."""

import itertools
import unittest

from slow import Slow
from support import ALONE, ANY, BELT, PAIR, check_truth, check_unchanged, loop_of, mangled, random_live_loop, rng_of
from support import window
from unwaited.errors import TooMany
from unwaited.matchings import fewest_cells, least_matching
from unwaited.rings import keeping_of_rings, rings_of
from unwaited.runs import all_orders
from unwaited.windows import are_chains, are_window_prices, cells_in, chains_in, counting, crowd_in, from_rounds
from unwaited.windows import is_crowd_in, is_turn_in, kept_in, most_kept_in, window_price_sum, window_prices

OWN = loop_of(("a", [("a", 1)]))
FAR = loop_of(("a", [("a", 8), ("b", 3)]), ("b", [("a", 2)]), ("c", [("b", 8)]), ("b", "c", 1))


class Slowly:
    """What there is to say of one WINDOW, by [31] alone."""

    def __init__(self, slow, rounds, is_cut):
        self.slow = slow
        self.steps = [(name, at) for name in slow.read_names for at in range(rounds)
                      if any(at + d < rounds for _, d in slow.readers[name])]
        self.rounds = rounds
        self.ahead = {x: {y for y in self.steps if x != y and self.turn(x, y, is_cut)} for x in self.steps}

    def turn(self, x, y, is_cut):
        readers = [(name, x[1] + d) for name, d in self.slow.readers[x[0]] if x[1] + d < self.rounds]
        return all(step in self.slow.before(y) or (step == y and not is_cut) for step in readers)

    def width(self, steps):
        """The fewest CHAINS for some of the STEPS, link by link."""
        then = {}

        def link(x, seen):
            for y in steps:
                if y in self.ahead[x] and y not in seen:
                    seen.add(y)
                    if y not in then or link(then[y], seen):
                        then[y] = x
                        return True
            return False
        return len(steps) - sum(link(x, set()) for x in steps)

    def is_crowd(self, steps):
        return not any(y in self.ahead[x] for x in steps for y in steps)

    def best(self, worths, m):
        """The greatest worth of STEPS that m CHAINS have, by all parts of the STEPS."""
        return max(sum(worths[name] for name, _ in steps) for many in range(len(self.steps) + 1)
                   for steps in itertools.combinations(self.steps, many) if self.width(steps) <= m)


def some_windows(number, many, most=6, tasks=4):
    rng = rng_of(number)
    for _ in range(many):
        slow = Slow(random_live_loop(rng, tasks, rng.choice((1, 2, 5)), 5))
        rounds = rng.randint(0, most)
        for is_cut in (False, True):
            yield rng, slow, rounds, is_cut, Slowly(slow, rounds, is_cut)


class Turns(unittest.TestCase):
    def test_counting(self):
        for _, slow, rounds, _, slowly in some_windows(311, 150):
            self.assertEqual(check_unchanged(self, counting, slow.loop, rounds), tuple(slowly.steps))

    def test_turns(self):
        told = {False: 0, True: 0}
        for _, slow, rounds, is_cut, slowly in some_windows(312, 40, 5):
            for x in slowly.steps:
                for y in slowly.steps:
                    if x != y:
                        here = is_turn_in(slow.loop, rounds, x, y, is_cut)
                        check_truth(self, here, y in slowly.ahead[x], (slow.loop, x, y))
                        told[here] += 1
        self.assertGreater(min(told.values()), 100)

    def test_readers_beyond(self):
        # All readers of c stand beyond; some of a and b: what comes later reads nothing.
        self.assertEqual(counting(FAR, 2), ())
        self.assertEqual(counting(FAR, 4), (("a", 0), ("a", 1), ("b", 0)))
        self.assertEqual(counting(FAR, 9), tuple(("a", at) for at in range(7)) + tuple(("b", at) for at in range(6)))
        # (a, 0) has one reader in WINDOW 8, (b, 2); in WINDOW 9 (a, 8), too.
        self.assertEqual([is_turn_in(FAR, rounds, ("a", 0), ("b", 2), False) for rounds in (8, 9)], [True, False])
        self.assertIs(is_turn_in(FAR, 8, ("a", 0), ("b", 2), True), False)
        self.assertEqual([cells_in(FAR, rounds, False) for rounds in (0, 1, 2, 3)], [0, 0, 0, 1])
        for is_cut in (False, True):
            self.assertEqual([counting(ALONE, 40), cells_in(ALONE, 40, is_cut), chains_in(ALONE, 40, is_cut),
                              crowd_in(ALONE, 40, is_cut), most_kept_in(ALONE, {}, 40, 3, is_cut),
                              kept_in(ALONE, {}, 40, 3, is_cut), window_prices(ALONE, {}, 40, 3, is_cut)],
                             [(), 0, (), (), 0, (), (0, {}, {})])


class Cells(unittest.TestCase):
    def check_papers(self, loop, rounds, is_cut):
        many = cells_in(loop, rounds, is_cut)
        chains = check_unchanged(self, chains_in, loop, rounds, is_cut)
        crowd = check_unchanged(self, crowd_in, loop, rounds, is_cut)
        self.assertEqual([len(chains), len(crowd)], [many, many])
        self.assertEqual(sorted(step for chain in chains for step in chain), list(counting(loop, rounds)))
        self.assertIs(are_chains(loop, rounds, is_cut, chains), True)
        self.assertIs(is_crowd_in(loop, rounds, is_cut, crowd), True)

    def test_as_said(self):
        for _, slow, rounds, is_cut, slowly in some_windows(313, 150):
            self.assertEqual(cells_in(slow.loop, rounds, is_cut), slowly.width(slowly.steps))
            self.check_papers(slow.loop, rounds, is_cut)
            chains = chains_in(slow.loop, rounds, is_cut)
            self.assertEqual(list(chains), sorted(chains))
            for chain in chains:
                self.assertTrue(all(y in slowly.ahead[x] for x, y in zip(chain, chain[1:])))
            crowd = crowd_in(slow.loop, rounds, is_cut)
            self.assertEqual(list(crowd), sorted(set(crowd)))
            self.assertTrue(slowly.is_crowd(crowd))

    def test_forty_rounds(self):
        rng = rng_of(314)
        for _ in range(12):
            loop = random_live_loop(rng, 10, 8, 12)
            for is_cut in (False, True):
                self.check_papers(loop, 40, is_cut)

    def test_no_rounds_and_one(self):
        for loop in (BELT, PAIR, OWN, FAR):
            for is_cut in (False, True):
                self.assertEqual([counting(loop, 0), cells_in(loop, 0, is_cut), chains_in(loop, 0, is_cut),
                                  crowd_in(loop, 0, is_cut)], [(), 0, (), ()])
                self.check_papers(loop, 1, is_cut)
        self.assertEqual([cells_in(BELT, 1, False), cells_in(BELT, 1, True), crowd_in(BELT, 1, True)],
                         [1, 2, (("a", 0), ("b", 0))])

    def test_right_in_all_orders_exactly_if_chains(self):
        # [5], in the WINDOW: CELLS for STEPS that COUNT, tried in all ORDERS.
        rng = rng_of(315)
        told = {False: 0, True: 0}
        while min(told.values()) < 40:
            slow = Slow(random_live_loop(rng, 3, 2, 3))
            rounds = rng.randint(1, 3)
            slowly = Slowly(slow, rounds, False)
            if len(slowly.steps) > 1 and len(slow.names) * rounds <= 7:
                cells = {step: rng.randrange(2) for step in slowly.steps}
                right = all(y in slowly.ahead[x] or x in slowly.ahead[y] for x in slowly.steps for y in slowly.steps
                            if x != y and cells[x] == cells[y])
                self.assertEqual(right, not any(self.loses(slow, cells, order) for order in all_orders(slow.loop, rounds)))
                told[right] += 1

    def loses(self, slow, cells, order):
        written = {}
        for name, at in order:
            for earlier, d in slow.reads[name]:
                if at >= d and written[cells[earlier, at - d]] != (earlier, at - d):
                    return True
            if (name, at) in cells:
                written[cells[name, at]] = (name, at)
        return False

    def test_cells_grow_to_the_fewest(self):
        # [6], [8]: with more rounds never fewer, never more than for ever.
        rng = rng_of(316)
        told = []
        for _ in range(40):
            loop = random_live_loop(rng, 4, 3, 7)
            for is_cut in (False, True):
                fewest = fewest_cells(loop, is_cut)
                row = [cells_in(loop, rounds, is_cut) for rounds in range(12)]
                self.assertEqual(row, sorted(row))
                if fewest is None:
                    self.assertIsNone(from_rounds(loop, is_cut))
                else:
                    self.assertLessEqual(row[-1], fewest)
                    rounds = from_rounds(loop, is_cut)
                    self.assertEqual(cells_in(loop, rounds, is_cut), fewest)
                    self.assertTrue(rounds == 0 or cells_in(loop, rounds - 1, is_cut) < fewest)
                    told.append(rounds)
        self.assertGreater(len(set(told)), 5)

    def test_from_rounds(self):
        self.assertEqual([from_rounds(ALONE, False), from_rounds(PAIR, False), from_rounds(OWN, True)], [0, None, 3])
        # A value of a is read 8 rounds later, and from there WAITS lead back to a: it has a CELL for so many rounds.
        for back, is_there in ((24, True), (25, False), (32, False)):
            waits = [("c", "b", 8), ("d", "c", 8), ("e", "d", 8), ("a", "e", back - 24)]
            slow_one = loop_of(("a", []), ("b", [("a", 8)]), ("c", []), ("d", []), ("e", []), *waits)
            for is_cut in (False, True):
                self.assertEqual(fewest_cells(slow_one, is_cut), 8 + back)
                self.assertEqual(cells_in(slow_one, 40, is_cut), 32)
                if is_there:
                    self.assertEqual(from_rounds(slow_one, is_cut), 40)
                else:
                    with self.assertRaises(TooMany) as caught:
                        from_rounds(slow_one, is_cut)
                    self.assertEqual(caught.exception.most, 40)

    def test_a_keeping_for_ever_is_one_here(self):
        # What has one CELL for ever is in CHAINS here, too.
        keeping = keeping_of_rings(BELT, rings_of(BELT, least_matching(BELT, False), False))
        rows = {}
        for name, at in counting(BELT, 20):
            rows.setdefault(keeping[1][name][at % keeping[0]], []).append((name, at))
        chains = tuple(sorted(tuple(sorted(row, key=lambda step: (step[1], step[0]))) for row in rows.values()))
        self.assertIs(are_chains(BELT, 20, False, chains), True)


class Worths(unittest.TestCase):
    def check_papers(self, loop, worths, rounds, m, is_cut):
        most = check_unchanged(self, most_kept_in, loop, worths, rounds, m, is_cut)
        chains = check_unchanged(self, kept_in, loop, worths, rounds, m, is_cut)
        paid = check_unchanged(self, window_prices, loop, worths, rounds, m, is_cut)
        self.assertLessEqual(len(chains), m)
        self.assertIs(are_chains(loop, rounds, is_cut, chains), True)
        self.assertEqual(sum(worths[name] for chain in chains for name, _ in chain), most)
        self.assertIs(are_window_prices(loop, worths, rounds, is_cut, paid), True)
        self.assertEqual(check_unchanged(self, window_price_sum, paid, m), most)
        for part in paid[1:]:
            self.assertEqual(list(part), list(counting(loop, rounds)))
        self.assertIsNot(paid[1], paid[2])
        return most

    def test_as_said(self):
        cases = 0
        for rng, slow, rounds, is_cut, slowly in some_windows(317, 400, 4, 3):
            if 2 <= len(slowly.steps) <= 8:
                most = rng.choice((1, 3, 1000))
                worths = {name: rng.randint(0, most) for name in slow.read_names}
                for m in range(4):
                    self.assertEqual(self.check_papers(slow.loop, worths, rounds, m, is_cut), slowly.best(worths, m))
                cases += 1
        self.assertGreater(cases, 150)

    def test_great_ones(self):
        rng = rng_of(318)
        for most, tasks in ((0, 5), (1, 10), (7, 8), (1000, 10)):
            loop = random_live_loop(rng, tasks, 8, 10)
            worths = {name: rng.randint(0, most) for name in Slow(loop).read_names}
            for is_cut in (False, True):
                rows = [self.check_papers(loop, worths, 40, m, is_cut) for m in (0, 1, 2, 7, 60)]
                self.assertEqual(rows, sorted(rows))
                self.assertEqual(rows[0], 0)

    def test_more_cells_than_chains(self):
        for loop in (BELT, PAIR, OWN, FAR):
            for is_cut in (False, True):
                worths = {name: 3 + at for at, name in enumerate(Slow(loop).read_names)}
                many = cells_in(loop, 12, is_cut)
                whole = sum(worths[name] for name, _ in counting(loop, 12))
                for m in (many, many + 1, 60, 10 ** 6):
                    self.assertEqual(self.check_papers(loop, worths, 12, m, is_cut), whole)
                self.assertLess(self.check_papers(loop, worths, 12, many - 1, is_cut), whole)
                self.assertEqual(self.check_papers(loop, worths, 12, 0, is_cut), 0)
                self.assertEqual(kept_in(loop, worths, 12, 0, is_cut), ())

    def test_worths_of_0_and_far_apart(self):
        nothing = {"a": 0, "b": 0}
        self.assertEqual([self.check_papers(BELT, nothing, 9, m, False) for m in (0, 1, 8)], [0, 0, 0])
        self.assertEqual([self.check_papers(BELT, {"a": 1000, "b": 0}, 6, m, False) for m in (1, 4, 5)],
                         [2000, 5000, 6000])
        self.assertEqual([self.check_papers(BELT, {"a": 1000, "b": 1}, 6, m, False) for m in (1, 2, 8)],
                         [2001, 3002, 6006])

    def test_nothing_has_more_than_any_prices(self):
        rng = rng_of(319)
        for _ in range(200):
            rounds = rng.randint(1, 6)
            steps = counting(BELT, rounds)
            worths = {"a": rng.randint(0, 5), "b": rng.randint(0, 5)}
            paper = (rng.randint(0, 8), {step: rng.randint(0, 5) for step in steps},
                     {step: step[1] * rng.randint(0, 1) for step in steps})
            if are_window_prices(BELT, worths, rounds, False, paper):
                for m in range(4):
                    self.assertGreaterEqual(window_price_sum(paper, m), most_kept_in(BELT, worths, rounds, m, False))


class Told(unittest.TestCase):
    """What tells of any value whether it is CHAINS, a CROWD OF THE WINDOW, WINDOW PRICES."""

    def is_step(self, thing, slowly):
        return type(thing) is tuple and [type(part) for part in thing] == [str, int] and thing in slowly.steps

    def are_chains(self, thing, slowly):
        if type(thing) is not tuple or not all(type(chain) is tuple and chain for chain in thing):
            return False
        steps = [step for chain in thing for step in chain]
        if not all(self.is_step(step, slowly) for step in steps) or len(set(steps)) < len(steps):
            return False
        return list(thing) == sorted(thing) and all(
            y in slowly.ahead[x] for chain in thing for x, y in zip(chain, chain[1:]))

    def is_crowd(self, thing, slowly):
        if type(thing) is not tuple or not all(self.is_step(step, slowly) for step in thing):
            return False
        return list(thing) == sorted(set(thing)) and slowly.is_crowd(thing)

    def are_prices(self, thing, worths, slowly):
        if type(thing) is not tuple or len(thing) != 3 or type(thing[0]) is not int or thing[0] < 0:
            return False
        for part in thing[1:]:
            if type(part) is not dict or not all(self.is_step(step, slowly) for step in part):
                return False
            if len(part) != len(slowly.steps) or not all(type(n) is int and n >= 0 for n in part.values()):
                return False
        cell, extras, heights = thing
        return all(worths[x[0]] - extras[x] + heights[x] <= most for x in slowly.steps
                   for most in [cell] + [heights[y] for y in slowly.ahead[x]])

    def test_any_value(self):
        slowly = Slowly(Slow(BELT), 3, False)
        worths = {"a": 2, "b": 1}
        chains = chains_in(BELT, 3, False)
        crowd = crowd_in(BELT, 3, False)
        paper = window_prices(BELT, worths, 3, 2, False)
        for thing in ANY + mangled(chains) + mangled(crowd) + mangled(paper) + [chains[::-1], crowd[::-1], chains * 2]:
            check_truth(self, are_chains(BELT, 3, False, thing), self.are_chains(thing, slowly), thing)
            check_truth(self, is_crowd_in(BELT, 3, False, thing), self.is_crowd(thing, slowly), thing)
            check_truth(self, are_window_prices(BELT, worths, 3, False, thing), self.are_prices(thing, worths, slowly),
                        thing)
        for thing in ((), (("a", 0),), (("a", True),), (("a", 3),), (("c", 0),), ((("a", 0),),), ((("a", False),),)):
            check_truth(self, are_chains(BELT, 3, False, thing), self.are_chains(thing, slowly), thing)
            check_truth(self, is_crowd_in(BELT, 3, False, thing), self.is_crowd(thing, slowly), thing)

    def test_by_a_little(self):
        told = {False: 0, True: 0}
        for rng, slow, rounds, is_cut, slowly in some_windows(320, 250, 5):
            steps = rng.sample(slowly.steps, min(len(slowly.steps), rng.randint(0, 4)))
            row = tuple(sorted(steps, key=lambda step: (step[1], step[0])))
            for thing in ((row,), tuple(sorted([row[:2], row[2:]])), (row[::-1],), row and (row[:1], row[:1])):
                here = are_chains(slow.loop, rounds, is_cut, thing)
                check_truth(self, here, self.are_chains(thing, slowly), (slow.loop, rounds, thing))
                told[here] += 1
            here = is_crowd_in(slow.loop, rounds, is_cut, tuple(sorted(steps)))
            check_truth(self, here, self.is_crowd(tuple(sorted(steps)), slowly), (slow.loop, rounds, steps))
            told[here] += 1
        self.assertGreater(min(told.values()), 200)

    def test_prices_at_the_bound_and_beyond(self):
        for rng, slow, rounds, is_cut, slowly in some_windows(321, 80, 5, 3):
            if slowly.steps:
                worths = {name: rng.randint(0, 3) for name in slow.read_names}
                cell, extras, heights = window_prices(slow.loop, worths, rounds, rng.randint(0, 3), is_cut)
                self.assertIs(are_window_prices(slow.loop, worths, rounds, is_cut, (cell, extras, heights)), True)
                for step in slowly.steps:
                    for paper in ((cell - 1, extras, heights), (cell + 1, extras, heights),
                                  (cell, {**extras, step: extras[step] - 1}, heights),
                                  (cell, extras, {**heights, step: heights[step] + 1}),
                                  (cell, extras, {**heights, step: heights[step] - 1}),
                                  (cell, {**extras, step: extras[step] + 1}, {**heights, step: heights[step] + 1})):
                        check_truth(self, are_window_prices(slow.loop, worths, rounds, is_cut, paper),
                                    self.are_prices(paper, worths, slowly), paper)

    def test_any_prices(self):
        told = {False: 0, True: 0}
        for rng, slow, rounds, is_cut, slowly in some_windows(322, 600, 4, 3):
            if 0 < len(slowly.steps) < 6:
                worths = {name: rng.randint(0, 2) for name in slow.read_names}
                paper = (rng.randint(0, 2), {step: rng.randint(0, 3) for step in slowly.steps},
                         {step: rng.randint(0, 3) for step in slowly.steps})
                right = self.are_prices(paper, worths, slowly)
                check_truth(self, are_window_prices(slow.loop, worths, rounds, is_cut, paper), right, (slow.loop, paper))
                told[right] += 1
        self.assertGreater(min(told.values()), 30)
        # The height of (b, 0) is beyond what a CELL costs; so is what (a, 0) gains.
        paper = (1, {("a", 0): 0, ("b", 0): 9}, {("a", 0): 1, ("b", 0): 5})
        self.assertIs(are_window_prices(BELT, {"a": 1, "b": 1}, 1, False, paper), False)
        self.assertIs(are_window_prices(BELT, {"a": 1, "b": 1}, 1, False, (2, *paper[1:])), True)

    def test_keys_in_any_order(self):
        paper = window_prices(BELT, {"a": 1, "b": 1}, 6, 3, False)
        turned = tuple([paper[0]] + [dict(reversed(part.items())) for part in paper[1:]])
        self.assertIs(are_window_prices(BELT, {"b": 1, "a": 1}, 6, False, turned), True)
        as_truth = (paper[0], {(name, bool(at) if at < 2 else at): n for (name, at), n in paper[1].items()}, paper[2])
        self.assertEqual(as_truth, paper)
        self.assertIs(are_window_prices(BELT, {"a": 1, "b": 1}, 6, False, as_truth), False)

    def test_windows_are_windows(self):
        self.assertEqual(len(window(BELT, 40)), 120)
        self.assertEqual(len(counting(BELT, 40)), 80)


if __name__ == "__main__":
    unittest.main()
