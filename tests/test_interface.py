"""The interface: each name, its arguments, and the file in which it is defined."""

import ast
import importlib
import inspect
import pathlib
import unittest

PACKAGE = pathlib.Path(__file__).resolve().parent.parent / "unwaited"

FUNCTIONS = {
    "fractions": "added(one, other) compared(one, other) fraction_text(fraction) lessened(one, other) reduced(n, d) "
                 "times(one, other)",
    "forms": "are_worths(loop, thing) is_count(thing) is_expression(thing) is_fraction(thing) is_integer(thing) "
             "is_keeping(loop, thing) is_live_loop(thing) is_loop(thing) is_name(thing) is_pairing(loop, thing) "
             "is_step(loop, thing) is_task(thing) is_value(thing) is_wait(thing) names_of(loop) read_names(loop) "
             "reads_of(expression) task_of(loop, name)",
    "expressions": "read_expression(text) show_expression(expression)",
    "looptexts": "read_loop(text) show_loop(loop)",
    "meanings": "comes_to(expression, at, found) first_of(loop, name) plain_memory(loop, run) reads_at(loop, step) "
                "value_of(loop, step) values_of(loop, rounds)",
    "arcs": "arcs_from(loop, name) arcs_of(loop) arcs_to(loop, name) dead_ring(loop) is_ring(loop, thing) "
            "lots_of(loop) modulus_of(loop, name) readers_of(loop, name)",
    "sums": "has(table, number) in_both(one, other) is_reach(loop, name, most, thing) is_table(thing) "
            "moved(table, by) next_in(table, number) reach(loop, name, most) sum_table(loop, one, other) "
            "sums_below(loop, one, other, most)",
    "paths": "is_before(loop, one, other) is_path(loop, one, other, thing) path_with(loop, one, other, number) "
             "steps_before(loop, step) sum_of(path)",
    "runs": "all_orders(loop, rounds) closed(loop, steps) is_cut_run(loop, thing) is_run(loop, thing) "
            "least_run(loop, steps) order_by(loop, rounds, choices) orders_many(loop, rounds) "
            "ready(loop, run, rounds) whole_steps(cut_run)",
    "beats": "beat_of(loop, step) beats_of(loop, rounds) fewest_beats(loop, rounds, workers) "
             "is_pace_paper(loop, thing) is_plan(loop, rounds, workers, thing) pace(loop) pace_paper(loop) "
             "pace_ring(loop) plan_by_heights(loop, rounds, workers)",
    "turns": "endless_tasks(loop) is_turn(loop, one, other, is_cut) "
             "is_turn_paper(loop, one, other, is_cut, thing) leads_back(loop, name) shift(loop, a, b, is_cut) "
             "shifts(loop, is_cut) turn_paper(loop, one, other, is_cut) turn_table(loop, a, b, is_cut)",
    "losing": "is_losing_run(loop, one, other, is_cut, thing) losing_length(loop, one, other, is_cut) "
              "losing_run(loop, one, other, is_cut)",
    "keepings": "are_alike(one, other) cell_of(keeping, step) cells_many(keeping) first_lost(loop, keeping, run) "
                "found(loop, keeping, run) kept_steps(keeping) longer(keeping, times) numbered(keeping) "
                "shortest(keeping)",
    "judged": "are_turn_lists(loop, keeping, is_cut, thing) first_clash(loop, keeping, is_cut) "
              "is_clash(loop, keeping, is_cut, thing) is_right(loop, keeping, is_cut) "
              "losing_run_of(loop, keeping) turn_lists(loop, keeping, is_cut)",
    "matchings": "are_numbers(loop, is_cut, thing) fewest_cells(loop, is_cut) is_matching(loop, is_cut, thing) "
                 "is_whole(loop, matching) least_matching(loop, is_cut) matching_cells(loop, is_cut, matching) "
                 "numbers(loop, is_cut)",
    "crowds": "crowd_clash(loop, is_cut, steps) crowd_of(begins, ends) greatest_crowd(loop, is_cut) "
              "growing_crowd(loop, name, many) is_crowd(loop, is_cut, thing)",
    "rings": "are_right_rings(loop, is_cut, thing) are_rings(loop, thing) cells_of_rings(rings) "
             "keeping_of_rings(loop, rings) matching_of_rings(loop, rings, is_cut) place_of(rings, step) "
             "rings_of(loop, matching, is_cut)",
    "stairs": "are_prices(loop, worths, is_cut, thing) cells_for(loop, worths, share, is_cut) "
              "corner_matching(loop, worths, cells, is_cut) corners(loop, worths, is_cut) price_sum(prices, m) "
              "prices(loop, worths, m, is_cut) stair(loop, worths, m, is_cut)",
    "shares": "corner_keeping(loop, worths, cells, is_cut) is_best(loop, worths, m, is_cut, keeping, prices) "
              "keeping_with(loop, worths, m, n, is_cut) share_of(worths, keeping)",
    "machine": "code_of(loop, rings) code_text(code) run_code(code, run) run_keeping(loop, keeping, run)",
    "windows": "are_chains(loop, rounds, is_cut, thing) are_window_prices(loop, worths, rounds, is_cut, thing) "
               "cells_in(loop, rounds, is_cut) chains_in(loop, rounds, is_cut) counting(loop, rounds) "
               "crowd_in(loop, rounds, is_cut) from_rounds(loop, is_cut) is_crowd_in(loop, rounds, is_cut, thing) "
               "is_turn_in(loop, rounds, one, other, is_cut) kept_in(loop, worths, rounds, m, is_cut) "
               "most_kept_in(loop, worths, rounds, m, is_cut) window_price_sum(prices, m) "
               "window_prices(loop, worths, rounds, m, is_cut)",
    "cuts": "cut_everywhere(loop, lot, run) fewest_for(loop, lot) first_wrong(loop, keeping, cut_run) "
            "free_to_cut(loop) is_of_lot(loop, lot, thing) is_right_for(loop, lot, keeping) "
            "played(loop, keeping, cut_run) price_of_cuts(loop) shifts_for(loop, lot) "
            "wrong_cut_run(loop, lot, keeping)",
    "covers": "covers(loop) least_waits(loop) needless_waits(loop) parting_run(one, other) runs_within(one, other) "
              "same_runs(one, other) struck(loop) with_waits(loop, waits)",
    "saved": "best_wait(loop, most) cells_with(loop, wait) fewest_waits(loop, m, most) loop_with(loop, wait) "
             "savings(loop, most)",
    "logs": "everybody_falls(hall) log_text(lines) reopened(loop, keeping, text) whole_lines(text)",
    "drawings": "keeping_text(loop, keeping) memory_line(loop, keeping, run) read_keeping(loop, text) "
                "run_lines(loop, keeping, run)",
}

CLASSES = {
    "hall": "Hall(loop, keeping) ask(worker) cells() cut_run() done(worker, value) fall(worker, value) hands() lines() "
            "marks() slow() twin()",
    "kept": "Kept(loop) cells() changes() is_cut() loop() matching() put_task(task) put_wait(wait) set_cut(is_cut) "
            "share(m) strike_needless() strike_task(name) strike_wait(wait) twin() undo() weigh(name, worth) worths()",
    "desk": "Desk(text) execute(line) kept()",
}

ERRORS = "Dead(ring) NoCommand(line) NoTask(name) NoText(place) Nothing() TooMany(most) Unlike(step) Wrong(place)"


def told(text):
    """The couples of a name and the list of its arguments in a text of the interface."""
    for piece in text.replace(") ", ")\n").split("\n"):
        name, arguments = piece.rstrip(")").split("(")
        yield name, arguments.split(", ") if arguments else []


class Interface(unittest.TestCase):
    def test_functions(self):
        for file, text in FUNCTIONS.items():
            module = importlib.import_module("unwaited." + file)
            tree = ast.parse((PACKAGE / (file + ".py")).read_text())
            defined = {node.name for node in tree.body if isinstance(node, ast.FunctionDef)}
            for name, arguments in told(text):
                self.assertIn(name, defined, file)
                parameters = inspect.signature(getattr(module, name)).parameters.values()
                self.assertEqual([one.name for one in parameters], arguments, name)
                self.assertTrue(all(one.kind is one.POSITIONAL_OR_KEYWORD for one in parameters), name)
                self.assertTrue(all(one.default is one.empty for one in parameters), name)

    def test_classes(self):
        for file, text in CLASSES.items():
            (name, arguments), *methods = told(text)
            module = importlib.import_module("unwaited." + file)
            tree = ast.parse((PACKAGE / (file + ".py")).read_text())
            own = [node for node in tree.body if isinstance(node, ast.ClassDef) and node.name == name]
            defined = {node.name for node in own[0].body if isinstance(node, ast.FunctionDef)}
            for method, parameters in [("__init__", arguments), *methods]:
                self.assertIn(method, defined, name)
                known = inspect.signature(getattr(getattr(module, name), method)).parameters.values()
                self.assertEqual([one.name for one in known], ["self", *parameters], method)
                self.assertTrue(all(one.default is one.empty for one in known), method)

    def test_every_module(self):
        files = {path.stem for path in PACKAGE.glob("*.py")}
        self.assertEqual(files, {*FUNCTIONS, *CLASSES, "errors", "__init__"})

    def test_errors(self):
        module = importlib.import_module("unwaited.errors")
        for name, arguments in told(ERRORS):
            parameters = inspect.signature(getattr(module, name).__init__).parameters
            self.assertEqual(list(parameters)[1:], arguments, name)

    def test_init_is_empty(self):
        self.assertEqual((PACKAGE / "__init__.py").read_text(), "")


if __name__ == "__main__":
    unittest.main()
