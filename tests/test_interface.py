"""The interface: each name, its arguments, and the file in which it is defined."""

import ast
import importlib
import inspect
import pathlib
import unittest

PACKAGE = pathlib.Path(__file__).resolve().parent.parent / "unwaited"

FUNCTIONS = {
    "fractions": "added(one, other) compared(one, other) fraction_text(fraction) lessened(one, other) reduced(n, d) "
                 "times(one, other)",
    "forms": "are_worths(loop, thing) is_count(thing) is_expression(thing) is_fraction(thing) is_integer(thing) "
             "is_keeping(loop, thing) is_live_loop(thing) is_loop(thing) is_name(thing) is_pairing(loop, thing) "
             "is_step(loop, thing) is_task(thing) is_value(thing) is_wait(thing) names_of(loop) read_names(loop) "
             "reads_of(expression) task_of(loop, name)",
    "expressions": "read_expression(text) show_expression(expression)",
    "looptexts": "read_loop(text) show_loop(loop)",
    "meanings": "comes_to(expression, at, found) first_of(loop, name) plain_memory(loop, run) reads_at(loop, step) "
                "value_of(loop, step) values_of(loop, rounds)",
    "arcs": "arcs_from(loop, name) arcs_of(loop) arcs_to(loop, name) dead_ring(loop) is_ring(loop, thing) "
            "lots_of(loop) modulus_of(loop, name) readers_of(loop, name)",
    "sums": "has(table, number) in_both(one, other) is_reach(loop, name, most, thing) is_table(thing) "
            "moved(table, by) next_in(table, number) reach(loop, name, most) sum_table(loop, one, other) "
            "sums_below(loop, one, other, most)",
    "paths": "is_before(loop, one, other) is_path(loop, one, other, thing) path_with(loop, one, other, number) "
             "steps_before(loop, step) sum_of(path)",
    "runs": "all_orders(loop, rounds) closed(loop, steps) is_cut_run(loop, thing) is_run(loop, thing) "
            "least_run(loop, steps) order_by(loop, rounds, choices) orders_many(loop, rounds) "
            "ready(loop, run, rounds) whole_steps(cut_run)",
    "beats": "beat_of(loop, step) beats_of(loop, rounds) fewest_beats(loop, rounds, workers) "
             "is_pace_paper(loop, thing) is_plan(loop, rounds, workers, thing) pace(loop) pace_paper(loop) "
             "pace_ring(loop) plan_by_heights(loop, rounds, workers)",
    "turns": "endless_tasks(loop) is_turn(loop, one, other, is_cut) "
             "is_turn_paper(loop, one, other, is_cut, thing) leads_back(loop, name) shift(loop, a, b, is_cut) "
             "shifts(loop, is_cut) turn_paper(loop, one, other, is_cut) turn_table(loop, a, b, is_cut)",
    "losing": "is_losing_run(loop, one, other, is_cut, thing) losing_length(loop, one, other, is_cut) "
              "losing_run(loop, one, other, is_cut)",
    "keepings": "are_alike(one, other) cell_of(keeping, step) cells_many(keeping) first_lost(loop, keeping, run) "
                "found(loop, keeping, run) kept_steps(keeping) longer(keeping, times) numbered(keeping) "
                "shortest(keeping)",
    "judged": "are_turn_lists(loop, keeping, is_cut, thing) first_clash(loop, keeping, is_cut) "
              "is_clash(loop, keeping, is_cut, thing) is_right(loop, keeping, is_cut) "
              "losing_run_of(loop, keeping) turn_lists(loop, keeping, is_cut)",
    "matchings": "are_numbers(loop, is_cut, thing) fewest_cells(loop, is_cut) is_matching(loop, is_cut, thing) "
                 "is_whole(loop, matching) least_matching(loop, is_cut) matching_cells(loop, is_cut, matching) "
                 "numbers(loop, is_cut)",
    "crowds": "crowd_clash(loop, is_cut, steps) crowd_of(begins, ends) greatest_crowd(loop, is_cut) "
              "growing_crowd(loop, name, many) is_crowd(loop, is_cut, thing)",
    "rings": "are_right_rings(loop, is_cut, thing) are_rings(loop, thing) cells_of_rings(rings) "
             "keeping_of_rings(loop, rings) matching_of_rings(loop, rings, is_cut) place_of(rings, step) "
             "rings_of(loop, matching, is_cut)",
    "stairs": "are_prices(loop, worths, is_cut, thing) cells_for(loop, worths, share, is_cut) "
              "corner_matching(loop, worths, cells, is_cut) corners(loop, worths, is_cut) price_sum(prices, m) "
              "prices(loop, worths, m, is_cut) stair(loop, worths, m, is_cut)",
    "shares": "corner_keeping(loop, worths, cells, is_cut) is_best(loop, worths, m, is_cut, keeping, prices) "
              "keeping_with(loop, worths, m, n, is_cut) share_of(worths, keeping)",
}

ERRORS = "Dead(ring) NoCommand(line) NoTask(name) NoText(place) Nothing() TooMany(most) Unlike(step) Wrong(place)"


def told(text):
    """The couples of a name and the list of its arguments in a text of the interface."""
    for piece in text.replace(") ", ")\n").split("\n"):
        name, arguments = piece.rstrip(")").split("(")
        yield name, arguments.split(", ") if arguments else []


class Interface(unittest.TestCase):
    def test_functions(self):
        for file, text in FUNCTIONS.items():
            module = importlib.import_module("unwaited." + file)
            tree = ast.parse((PACKAGE / (file + ".py")).read_text())
            defined = {node.name for node in tree.body if isinstance(node, ast.FunctionDef)}
            for name, arguments in told(text):
                self.assertIn(name, defined, file)
                parameters = inspect.signature(getattr(module, name)).parameters.values()
                self.assertEqual([one.name for one in parameters], arguments, name)
                self.assertTrue(all(one.kind is one.POSITIONAL_OR_KEYWORD for one in parameters), name)
                self.assertTrue(all(one.default is one.empty for one in parameters), name)

    def test_errors(self):
        module = importlib.import_module("unwaited.errors")
        for name, arguments in told(ERRORS):
            parameters = inspect.signature(getattr(module, name).__init__).parameters
            self.assertEqual(list(parameters)[1:], arguments, name)

    def test_init_is_empty(self):
        self.assertEqual((PACKAGE / "__init__.py").read_text(), "")


if __name__ == "__main__":
    unittest.main()
