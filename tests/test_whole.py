"""The whole program: what [1] to [10] promise over all modules together."""

import copy
import importlib
import unittest

from halls import right_keepings, work_honestly
from slow import Slow
from support import ALONE, ANY, BELT, PAIR, random_live_loop, rng_of, same
from test_interface import CLASSES, FUNCTIONS, told
from unwaited import errors
from unwaited.arcs import arcs_of, is_ring
from unwaited.beats import is_pace_paper, pace_paper
from unwaited.covers import covers, needless_waits, parting_run, runs_within, same_runs, struck, with_waits
from unwaited.crowds import crowd_of, greatest_crowd, growing_crowd, is_crowd
from unwaited.cuts import cut_everywhere, first_wrong, is_right_for, price_of_cuts, wrong_cut_run
from unwaited.desk import Desk
from unwaited.forms import is_keeping, is_live_loop, names_of, read_names
from unwaited.hall import Hall
from unwaited.judged import are_turn_lists, first_clash, is_right, losing_run_of, turn_lists
from unwaited.keepings import cells_many, first_lost
from unwaited.kept import Kept
from unwaited.logs import log_text, reopened
from unwaited.looptexts import read_loop, show_loop
from unwaited.losing import is_losing_run, losing_run
from unwaited.machine import code_of, run_code, run_keeping
from unwaited.matchings import are_numbers, fewest_cells, least_matching, matching_cells, numbers
from unwaited.meanings import plain_memory, values_of
from unwaited.paths import is_before
from unwaited.rings import are_right_rings, cells_of_rings, keeping_of_rings, matching_of_rings, rings_of
from unwaited.runs import all_orders, is_cut_run, is_run, order_by
from unwaited.shares import corner_keeping, is_best, keeping_with, share_of
from unwaited.stairs import are_prices, corners, price_sum, prices, stair
from unwaited.turns import endless_tasks, is_turn, leads_back, shifts
from unwaited.windows import cells_in

KEEPING = (2, {"a": (0, 1), "b": (2, None)})
RIGHT = (6, {"a": (0, 1, 2, 3, 4, 5), "b": (None,) * 6})
RUN = (("a", 0), ("a", 1), ("b", 0), ("b", 1), ("c", 0))
CUT_RUN = ((("a", 0), False), (("a", 0), True), (("a", 1), True), (("b", 0), True))
PAPER = ((1, 5), {"a": (0, 1), "b": (2, 5)}, {"a": (0, 1), "b": (0, 1)})
RINGS = ((5, (("a", 0),)), (3, (("b", 0),)))
EXPRESSION = BELT[0][0][2]
# What stands for each argument; some modules mean other things by these words.
GIVEN = {"loop": BELT, "name": "b", "thing": RUN, "is_cut": False, "keeping": KEEPING, "run": RUN, "worths": {"b": 1, "a": 2},
         "m": 4, "n": 2, "rounds": 2, "rings": RINGS, "matching": {"b": "a", "a": "b"}, "lot": ("a", "c"), "waits": (("a", "c", 4),),
         "text": "a 0\nb -", "step": ("b", 4), "steps": (("a", 0), ("b", 1)), "expression": EXPRESSION, "a": "a", "b": "b",
         "cells": 5, "share": (3, 2), "prices": PAPER, "d": 4, "at": 5, "found": {("a", 2): 7}, "number": 6, "by": 2, "times": 2,
         "table": ((3,), 5, 1, (0,)), "most": 3, "path": (("a", "b", 0), ("b", "b", 3)), "choices": (3, 1, 2), "workers": 2,
         "cut_run": CUT_RUN, "begins": {"b": 2, "a": 0}, "ends": {"a": 5, "b": 5}, "many": 3, "code": code_of(BELT, RINGS),
         "wait": ("b", "a", 1), "lines": ("ask 1", "done 1 5"), "fraction": (3, 4), "one": ("a", 0), "other": ("b", 1)}
IN_MODULES = {"fractions": {"one": (1, 2), "other": (2, 3)}, "sums": {"one": "b", "other": "a"},
              "keepings": {"one": KEEPING, "other": RIGHT},
              "covers": {"one": BELT, "other": (BELT[0], (("a", "b", 1),))}, "logs": {"keeping": RIGHT, "text": "ask 1\n"},
              "expressions": {"text": "a @ 2 + round"}, "looptexts": {"text": show_loop(BELT)}}
IN_FUNCTIONS = {"in_both": {"one": ((3,), 5, 1, (0,)), "other": ((), 0, 2, (1,))}, "is_path": {"one": "a", "other": "c"},
                "path_with": {"one": "a", "other": "b"}, "plain_memory": {"run": RUN[:4]}, "losing_run_of": {"keeping": KEEPING},
                "growing_crowd": {"loop": PAIR, "name": "a"}, "fewest_waits": {"loop": PAIR, "m": 2, "most": 3}, "best_wait": {"most": 1},
                "window_price_sum": {"prices": (3, {("a", 0): 1}, {("a", 0): 2})}, "is_best": {"keeping": RIGHT},
                "corner_matching": {"cells": 8}, "corner_keeping": {"cells": 8}, "keeping_with": {"m": 8},
                "is_turn_in": {"one": ("a", 0), "other": ("b", 0)}, "everybody_falls": {"hall": None}}


def calls():
    """For each function of the interface: its name, itself, its arguments."""
    for file, text in FUNCTIONS.items():
        module = importlib.import_module("unwaited." + file)
        for name, arguments in told(text):
            given = {**GIVEN, "hall": Hall(BELT, RIGHT), **IN_MODULES.get(file, {}), **IN_FUNCTIONS.get(name, {})}
            yield name, getattr(module, name), [given[argument] for argument in arguments]


def holders(thing):
    """All lists and dicts in a value, itself among them."""
    if isinstance(thing, (list, dict)):
        yield thing
    parts = thing.values() if isinstance(thing, dict) else thing if isinstance(thing, (list, tuple)) else ()
    for part in parts:
        yield from holders(part)


def spoil(thing):
    """Changes all lists and dicts in a value."""
    for holder in list(holders(thing)):
        holder.clear()


class Functions(unittest.TestCase):
    """[3], of each function of the interface."""

    def test_every_function(self):
        many = 0
        for name, call, arguments in calls():
            if name == "everybody_falls":
                continue
            with self.subTest(name):
                before = copy.deepcopy(arguments)
                result = call(*arguments)
                kept = copy.deepcopy(result)
                self.assertTrue(same(arguments, before), "an argument has changed")
                found = list(holders(result))
                self.assertEqual(len({id(one) for one in found}), len(found))
                given = {id(one) for argument in arguments for one in holders(argument)}
                self.assertFalse(given & {id(one) for one in found})
                for one in found:
                    if isinstance(one, dict) and name != "plain_memory":
                        self.assertEqual(list(one), sorted(one))
                spoil(result)
                self.assertTrue(same(arguments, before))
                again = call(*arguments)
                self.assertTrue(same(again, kept) or isinstance(again, Hall) and again == kept)
                many += 1
        self.assertGreater(many, 130)

    def test_what_tells_returns_truths(self):
        for name, call, arguments in calls():
            if name.startswith(("is_", "are_")) or name in ("has", "leads_back", "runs_within", "same_runs"):
                self.assertIn(type(call(*arguments)), (bool,), name)

    def test_any_value(self):
        for name, call, arguments in calls():
            module_text = " ".join(FUNCTIONS.values())
            if name + "(" in module_text and arguments and call.__code__.co_varnames[len(arguments) - 1] == "thing":
                for thing in ANY:
                    self.assertIn(call(*arguments[:-1], thing), (True, False), name)
        for thing in ANY:
            for other in ANY[::7]:
                self.assertIn(is_best(BELT, {"a": 1, "b": 1}, 5, False, thing, other), (False,))

    def test_marked_ones_take_any_value(self):
        # [4]: the first argument that is not as described, ahead of any other error.
        marked = {"read_expression": 1, "read_loop": 1, "whole_lines": 1, "reopened": 3, "read_keeping": 2}
        for name, call, arguments in calls():
            if name in marked:
                self.assertEqual(len(arguments), marked[name])
                for place in range(len(arguments)):
                    for thing in (None, True, 7, [], {}, (), (1,), [arguments[place]], Kept(ALONE), Hall(BELT, RIGHT)):
                        for rest in (arguments[place + 1:], [None] * (len(arguments) - place - 1)):
                            with self.assertRaises(errors.Wrong, msg=name) as caught:
                                call(*arguments[:place], thing, *rest)
                            self.assertEqual(caught.exception.place, place)

    def test_methods_that_change_return_none(self):
        hall = Hall(BELT, RIGHT)
        hall.ask(0)
        self.assertIsNone(hall.fall(0, None))
        hall.ask(0)
        self.assertIsNone(hall.done(0, 1))
        kept = Kept(BELT)
        for call, given in ((kept.put_task, (("d", 1, ("round",)),)), (kept.put_wait, (("d", "a", 0),)), (kept.weigh, ("a", 2)),
                            (kept.strike_wait, (("d", "a", 0),)), (kept.strike_task, ("d",)), (kept.strike_needless, ()),
                            (kept.set_cut, (True,)), (kept.undo, ())):
            self.assertIsNone(call(*given))

    def test_the_errors_are_all_there_are(self):
        self.assertEqual(len(CLASSES), 3)
        for name in ("Dead", "NoCommand", "NoTask", "NoText", "Nothing", "TooMany", "Unlike", "Wrong"):
            self.assertEqual(getattr(errors, name).__mro__[1:3], (errors.LoopError, ValueError))


class Guarantees(unittest.TestCase):
    def loops(self, number, many, tasks=4, most=3, waits=6):
        rng = rng_of(number)
        for _ in range(many):
            yield rng, random_live_loop(rng, tasks, most, waits)

    def test_one_cell(self):
        # [5]: in all ORDERS, and by turns; a losing RUN or TURN LISTS.
        told = {False: 0, True: 0}
        for rng, loop in self.loops(401, 150, 3, 2, 4):
            names = read_names(loop)
            keeping = (1, {name: (rng.randrange(2),) for name in names})
            if is_keeping(loop, keeping):
                right = is_right(loop, keeping, False)
                paper, run = turn_lists(loop, keeping, False), losing_run_of(loop, keeping)
                self.assertEqual([paper is not None, run is None], [right, right])
                if right:
                    self.assertIs(are_turn_lists(loop, keeping, False, paper), True)
                    for order in all_orders(loop, 2) if len(names_of(loop)) < 4 else ():
                        self.assertIsNone(first_lost(loop, keeping, order))
                else:
                    self.assertEqual(first_lost(loop, keeping, run), len(run) - 1)
                told[right] += 1
        self.assertGreater(min(told.values()), 20)

    def test_all_values(self):
        # [6], [8]: MATCHING, CROWD, NUMBERS and RINGS meet; otherwise CROWDS grow without an end.
        told = {False: 0, True: 0}
        for _, loop in self.loops(402, 120):
            for is_cut in (False, True):
                many = fewest_cells(loop, is_cut)
                self.assertEqual(many is None, any(not leads_back(loop, name) for name in read_names(loop)))
                if many is None:
                    for name in endless_tasks(loop):
                        self.assertIs(is_crowd(loop, is_cut, growing_crowd(loop, name, 30)), True)
                else:
                    matching = least_matching(loop, is_cut)
                    begins, ends = numbers(loop, is_cut)
                    self.assertIs(are_numbers(loop, is_cut, (begins, ends)), True)
                    crowd = greatest_crowd(loop, is_cut)
                    self.assertIs(is_crowd(loop, is_cut, crowd), True)
                    rings = rings_of(loop, matching, is_cut)
                    self.assertIs(are_right_rings(loop, is_cut, rings), True)
                    self.assertEqual(matching_of_rings(loop, rings, is_cut), matching)
                    keeping = keeping_of_rings(loop, rings)
                    self.assertIs(is_right(loop, keeping, is_cut), True)
                    self.assertEqual([matching_cells(loop, is_cut, matching), len(crowd), cells_of_rings(rings),
                                      cells_many(keeping), len(crowd_of(begins, ends))], [many] * 5)
                    self.assertLessEqual(cells_in(loop, 12, is_cut), many)
                told[many is None] += 1
        self.assertGreater(min(told.values()), 30)

    def test_why_there_are_no_fewer(self):
        # [10]: no end is below its begin, and the STEPS between them, moved up, are a CROWD again.
        for rng, loop in self.loops(403, 80):
            paper = numbers(loop, False)
            if paper is not None:
                begins, ends = paper
                self.assertTrue(all(begins[name] <= ends[name] for name in begins))
                up = rng.randint(1, 50)
                moved = tuple((name, at + up) for name, at in crowd_of(begins, ends))
                self.assertIs(is_crowd(loop, False, moved), True)
                for (a, b), s in shifts(loop, False).items():
                    self.assertLessEqual(ends[b] - begins[a], s)

    def test_why_not_one_cell(self):
        # [10]: all that is BEFORE x, x, all that is BEFORE y, y, all that is BEFORE r, r: it finds y, or something later.
        cases = 0
        for _, loop in self.loops(404, 150, 4, 2, 4):
            slow = Slow(loop)
            keeping = (1, {name: (0,) for name in slow.read_names})
            clash = first_clash(loop, keeping, False)
            if clash is not None:
                for x, y in (clash, clash[::-1]):
                    late = [(name, x[1] + d) for name, d in slow.readers[x[0]]]
                    late = [step for step in late if step != y and step not in slow.before(y)]
                    if y not in slow.before(x) and late:
                        run = []
                        for goal in (x, y, late[0]):
                            run += [step for step in sorted(slow.before(goal), key=self.in_order(loop)) if step not in run]
                            run += [goal] if goal not in run else []
                        self.assertIs(is_run(loop, tuple(run)), True)
                        self.assertIs(is_losing_run(loop, x, y, False, tuple(run)), True)
                        self.assertIsNotNone(first_lost(loop, keeping, tuple(run)))
                        cases += 1
                self.assertIsNotNone(losing_run(loop, clash[0], clash[1], False))
        self.assertGreater(cases, 50)

    def in_order(self, loop):
        order = {step: at for at, step in enumerate(order_by(loop, 25, ()))}
        return lambda step: order[step]

    def test_any_number_of_cells(self):
        # [7], [8]: STAIR, PRICES and KEEPINGS meet.
        for rng, loop in self.loops(405, 60, 3, 2, 6):
            worths = {name: rng.randint(0, 5) for name in read_names(loop)}
            for is_cut in (False, True):
                for m in (0, 1, 2, 3, 5):
                    paper = prices(loop, worths, m, is_cut)
                    self.assertIs(are_prices(loop, worths, is_cut, paper), True)
                    self.assertEqual(price_sum(paper, m), stair(loop, worths, m, is_cut))
                    keeping = keeping_with(loop, worths, m, 2, is_cut)
                    if keeping is not None:
                        self.assertEqual(share_of(worths, keeping), stair(loop, worths, m, is_cut))
                        self.assertIs(is_best(loop, worths, m, is_cut, keeping, paper), True)
                for cells, worth in corners(loop, worths, is_cut):
                    keeping = corner_keeping(loop, worths, cells, is_cut)
                    self.assertIs(is_best(loop, worths, cells, is_cut, keeping, prices(loop, worths, cells, is_cut)), True)
                    self.assertEqual(share_of(worths, keeping), (worth, 1))

    def test_cuts(self):
        # [8]: what cuts cost, and where something is lost by them alone.
        cost = 0
        for rng, loop in self.loops(406, 100):
            without, with_cuts = price_of_cuts(loop)
            self.assertEqual([without, with_cuts], [fewest_cells(loop, False), fewest_cells(loop, True)])
            if without is not None:
                self.assertGreaterEqual(with_cuts, without)
                keeping = keeping_of_rings(loop, rings_of(loop, least_matching(loop, False), False))
                run = order_by(loop, 4, [rng.randrange(9) for _ in range(16)])
                self.assertIsNone(first_wrong(loop, keeping, cut_everywhere(loop, (), run)))
                whole = keeping_of_rings(loop, rings_of(loop, least_matching(loop, True), True))
                self.assertIsNone(first_wrong(loop, whole, cut_everywhere(loop, names_of(loop), run)))
                if with_cuts > without and keeping[0] <= 12:
                    self.assertIs(is_right_for(loop, names_of(loop), keeping), False)
                    wrong = wrong_cut_run(loop, names_of(loop), keeping)
                    self.assertIs(is_cut_run(loop, wrong), True)
                    cost += 1
        self.assertGreater(cost, 15)

    def test_orders(self):
        # [9]: the same RUNS exactly if the same COVERS; all NEEDLESS WAITS at once; one least list.
        for rng, loop in self.loops(407, 120, 4, 2, 8):
            least = struck(loop)
            self.assertEqual([covers(least), same_runs(loop, least), needless_waits(least)], [covers(loop), True, ()])
            some = tuple(wait for wait in loop[1] if wait in least[1] or rng.random() < 0.5)
            self.assertEqual(struck(with_waits(loop, some)), least)
            fewer = tuple(wait for wait in loop[1] if rng.random() < 0.7)
            other = with_waits(loop, fewer)
            self.assertIs(same_runs(loop, other), set(least[1]) <= set(fewer))
            self.assertIs(runs_within(loop, other), True)
            if not same_runs(loop, other):
                run = parting_run(other, loop)
                self.assertEqual([is_run(other, run), is_run(loop, run)], [True, False])

    def test_turns_are_orders(self):
        # [2]: TURNS and STRICT TURNS follow one another, and no STEP has its TURN ahead of one that has it ahead of it.
        for rng, loop in self.loops(408, 40, 3, 2, 6):
            steps = [(name, at) for name in read_names(loop) for at in range(4)]
            for is_cut in (False, True):
                ahead = {(x, y) for x in steps for y in steps if x != y and is_turn(loop, x, y, is_cut)}
                self.assertFalse({(y, x) for x, y in ahead} & ahead)
                self.assertTrue(all((x, z) in ahead for x, y in ahead for one, z in ahead if one == y))
                self.assertTrue(all(is_before(loop, x, y) for x, y in ahead))


class Story(unittest.TestCase):
    """[1]: from a text to a hall of workers, with papers from both sides all the way."""

    def test_all_the_way(self):
        rng = rng_of(411)
        halls = 0
        for _ in range(40):
            first = random_live_loop(rng, 4, 2, 7)
            loop = read_loop(show_loop(first))
            self.assertEqual(loop, first)
            self.assertIs(is_live_loop(loop), True)
            ring = pace_paper(loop)[0]
            self.assertIs(is_pace_paper(loop, pace_paper(loop)), True)
            self.assertTrue(ring is None or is_ring(loop, ring))
            self.assertEqual(len(arcs_of(loop)), len(set(arcs_of(loop))))
            run = order_by(loop, 5, [rng.randrange(20) for _ in range(25)])
            plain = plain_memory(loop, run)
            values = values_of(loop, 5)
            self.assertEqual(plain, {(name, at): values[name][at] for name, at in run})
            for keeping in right_keepings(rng, Slow(loop)):
                self.assertEqual(run_keeping(loop, keeping, run), dict(sorted(plain.items())))
                hall = Hall(loop, keeping)
                work_honestly(self, rng, loop, hall, 30)
                again = reopened(loop, keeping, log_text(hall.lines()))
                self.assertIs(again == hall, True)
                self.assertIsNone(first_wrong(loop, keeping, hall.cut_run()))
                halls += 1
            if fewest_cells(loop, False) is not None:
                rings = rings_of(loop, least_matching(loop, False), False)
                self.assertEqual(run_code(code_of(loop, rings), run), dict(sorted(plain.items())))
            desk = Desk(show_loop(loop))
            self.assertEqual(desk.execute("loop"), show_loop(loop).split("\n"))
            self.assertEqual(desk.execute("strike needless"), ["done"])
            self.assertEqual(desk.kept().loop(), struck(loop))
        self.assertGreater(halls, 100)


if __name__ == "__main__":
    unittest.main()
