"""The examples of the document, to be run as they stand."""

STAGE_1 = """
>>> from unwaited.errors import NoTask
>>> from unwaited.forms import are_worths, is_expression, is_keeping, is_live_loop, is_loop, is_pairing, is_step, read_names, reads_of, task_of
>>> from unwaited.fractions import added, compared, fraction_text, lessened, reduced, times
>>> [reduced(6, -4), added((1, 2), (1, 3)), lessened((1, 2), (1, 2)), times((2, 3), (3, 4)), compared((1, 3), (2, 5)), fraction_text((-3, 2)), fraction_text((4, 1))]
[(-3, 2), (5, 6), (0, 1), (1, 2), -1, '-3/2', '4']
>>> sum_of = ("two", "+", ("read", "a", 1), ("if", ("read", "b", 0), ("read", "a", 1), ("round",)))
>>> [is_expression(sum_of), is_expression(("number", 10000)), is_expression(("read", "if", 0)), reads_of(sum_of)]
[True, False, False, (('a', 1), ('b', 0))]
>>> loop = ((("a", 7, ("read", "a", 1)), ("b", 0, ("read", "a", 0))), (("a", "b", 1),))
>>> turned = (loop[0], (("a", "b", 0),))
>>> [is_live_loop(loop), is_loop(turned), is_live_loop(turned), is_loop((loop[0][:1], loop[1])), read_names(loop)]
[True, True, False, False, ('a',)]
>>> [is_step(loop, ("b", 3)), is_step(loop, ("c", 3)), is_keeping(loop, (2, {"a": (0, None)})), is_keeping(loop, (1, {"a": (1,)})), are_worths(loop, {"a": 1000}), is_pairing(loop, {"b": "b"})]
[True, False, True, False, True, False]
>>> try:
...     task_of(loop, "c")
... except NoTask as error:
...     print(error.name)
c
"""

STAGE_2 = """
>>> from unwaited.errors import NoText
>>> from unwaited.expressions import read_expression, show_expression
>>> from unwaited.looptexts import read_loop, show_loop
>>> deep = ("two", "-", ("read", "a", 0), ("two", "-", ("read", "b", 2), ("two", "*", ("number", 3), ("round",))))
>>> show_expression(deep)
'a - ( b @ 2 - 3 * round )'
>>> [read_expression(show_expression(deep)) == deep, read_expression(" ( a - b ) - 1") == read_expression("a - b - 1")]
[True, True]
>>> show_expression(("two", "<", ("if", ("read", "a", 0), ("number", 1), ("number", 2)), ("round",)))
'( if a then 1 else 2 ) < round'
>>> try:
...     read_expression("a + b @ 0")
... except NoText as error:
...     print(error.place)
4
>>> try:
...     read_expression("( a + 1")
... except NoText as error:
...     print(error.place)
4
>>> loop = read_loop("# a sum\\nwait a b 1\\ntask b first 0 = a * 2\\ntask a first 7 = a @ 1 + 1")
>>> loop
((('a', 7, ('two', '+', ('read', 'a', 1), ('number', 1))), ('b', 0, ('two', '*', ('read', 'a', 0), ('number', 2)))), (('a', 'b', 1),))
>>> [show_loop(loop), read_loop(show_loop(loop)) == loop]
['task a first 7 = a @ 1 + 1\\ntask b first 0 = a * 2\\nwait a b 1', True]
>>> try:
...     read_loop("task a first 7 = b\\ntask a first 8 = 1 +")
... except NoText as error:
...     print(error.place)
(0, 5)
"""

STAGE_3 = """
>>> from unwaited.looptexts import read_loop
>>> from unwaited.meanings import comes_to, first_of, plain_memory, reads_at, value_of, values_of
>>> loop = read_loop("task a first 7 = a @ 2 + 1\\ntask b first 0 = if a < 9 then a * round else b @ 1 - a")
>>> values_of(loop, 4)
{'a': (8, 8, 9, 9), 'b': (0, 8, 9999, 9990)}
>>> [value_of(loop, ("b", 2)), reads_at(loop, ("b", 2)), reads_at(loop, ("a", 1)), first_of(loop, "b")]
[9999, (('a', 0, 9), ('b', 1, 8)), (('a', 2, 7),), 0]
>>> plain_memory(loop, (("a", 1), ("a", 0), ("b", 0), ("a", 2), ("b", 1)))
{('a', 1): 8, ('a', 0): 8, ('b', 0): 0, ('a', 2): 9, ('b', 1): 8}
>>> comes_to(("two", "-", ("read", "a", 3), ("round",)), 10004, {("a", 3): 2})
9998
"""

STAGE_4 = """
>>> from unwaited.arcs import arcs_of, dead_ring, is_ring, lots_of, modulus_of, readers_of
>>> from unwaited.errors import NoTask
>>> from unwaited.paths import is_before, is_path, path_with, steps_before, sum_of
>>> from unwaited.sums import has, in_both, is_reach, is_table, moved, next_in, reach, sum_table, sums_below
>>> tasks = (("a", 1, ("two", "+", ("read", "a", 2), ("round",))), ("b", 5, ("two", "*", ("read", "a", 0), ("read", "b", 3))), ("c", 0, ("read", "b", 0)))
>>> belt = (tasks, (("a", "c", 3),))
>>> arcs_of(belt)
(('a', 'a', 2), ('a', 'b', 0), ('b', 'b', 3), ('b', 'c', 0), ('c', 'a', 3))
>>> [readers_of(belt, "a"), readers_of(belt, "c"), lots_of(belt), modulus_of(belt, "b"), lots_of((tasks, ())), modulus_of((tasks, ()), "b")]
[(('a', 2), ('b', 0)), (), (('a', 'b', 'c'),), 1, (('a',), ('b',), ('c',)), 3]
>>> dead = (tasks, (("a", "c", 0),))
>>> [dead_ring(belt), dead_ring(dead), is_ring(belt, (("a", "a", 2),)), is_ring(belt, (("a", "b", 0),)), is_ring(belt, ())]
[None, (('a', 'b', 0), ('b', 'c', 0), ('c', 'a', 0)), True, False, False]
>>> [sum_table(belt, "a", "a"), sum_table(belt, "b", "a"), sum_table((tasks, ()), "b", "b"), sum_table((tasks, ()), "b", "a")]
[((0,), 2, 1, (0,)), ((3,), 5, 1, (0,)), ((), 0, 3, (0,)), ((), 0, 1, ())]
>>> table = sum_table(belt, "b", "a")
>>> [has(table, 3), has(table, 4), has(table, 999), next_in(table, 4), moved(table, 2), in_both(table, ((), 0, 2, (0,))), is_table(((3,), 5, 2, (0, 1)))]
[True, False, True, 5, ((5,), 7, 1, (0,)), ((), 5, 2, (0,)), False]
>>> [sums_below(belt, "b", "b", 7), reach(belt, "b", 4), is_reach(belt, "b", 4, {"a": (3,), "b": (0, 3), "c": (0,)})]
[(0, 3, 5, 6), {'a': (3,), 'b': (0, 3), 'c': (0, 3)}, False]
>>> path_with(belt, "b", "a", 5)
(('b', 'c', 0), ('c', 'a', 3), ('a', 'a', 2))
>>> [path_with(belt, "b", "a", 4), sum_of(path_with(belt, "a", "c", 3)), is_path(belt, "a", "a", ()), is_path(belt, "a", "b", ()), is_before(belt, ("b", 0), ("a", 3)), is_before(belt, ("b", 0), ("a", 4))]
[None, 3, True, False, True, False]
>>> steps_before(belt, ("a", 4))
(('a', 0), ('a', 1), ('a', 2), ('b', 1), ('c', 1))
>>> try:
...     readers_of(belt, "d")
... except NoTask as error:
...     print(error.name)
d
"""

STAGE_5 = """
>>> from unwaited.beats import beat_of, beats_of, fewest_beats, is_pace_paper, is_plan, pace, pace_ring, plan_by_heights
>>> from unwaited.runs import all_orders, closed, is_cut_run, is_run, least_run, order_by, orders_many, ready, whole_steps
>>> pair = ((("a", 0, ("two", "+", ("read", "a", 1), ("number", 1))), ("b", 0, ("two", "*", ("read", "a", 0), ("number", 2)))), ())
>>> [ready(pair, (), 2), ready(pair, (("a", 0),), 2)]
[(('a', 0),), (('a', 1), ('b', 0))]
>>> [order_by(pair, 2, ()), order_by(pair, 2, (7, 1))]
[(('a', 0), ('a', 1), ('b', 0), ('b', 1)), (('a', 0), ('b', 0), ('a', 1), ('b', 1))]
>>> [orders_many(pair, rounds) for rounds in (0, 1, 2, 3)]
[1, 1, 3, 15]
>>> all_orders(pair, 2)[1]
(('a', 0), ('a', 1), ('b', 1), ('b', 0))
>>> [is_run(pair, (("a", 0), ("a", 1), ("b", 1))), is_run(pair, (("a", 1), ("a", 0))), is_run(pair, ())]
[True, False, True]
>>> cut = ((("a", 0), False), (("a", 0), True), (("b", 0), False), (("a", 1), True))
>>> [is_cut_run(pair, cut), is_cut_run(pair, cut[:1] + cut[2:]), whole_steps(cut)]
[True, False, (('a', 0), ('a', 1))]
>>> [closed(pair, [("b", 1)]), least_run(pair, (("b", 1), ("b", 0)))]
[(('a', 0), ('a', 1), ('b', 1)), (('a', 0), ('a', 1), ('b', 0), ('b', 1))]
>>> tasks = (("a", 1, ("two", "+", ("read", "a", 2), ("round",))), ("b", 5, ("two", "*", ("read", "a", 0), ("read", "b", 3))), ("c", 0, ("read", "b", 0)))
>>> belt = (tasks, (("a", "c", 3),))
>>> [beat_of(belt, ("a", 3)), beat_of(belt, ("b", 7)), beats_of(pair, 2)]
[3, 7, ((('a', 0),), (('a', 1), ('b', 0)), (('b', 1),))]
>>> plan_by_heights(belt, 3, 2)
((('a', 0), ('a', 1)), (('a', 2), ('b', 0)), (('b', 1), ('b', 2)), (('c', 0), ('c', 1)), (('c', 2),))
>>> [[fewest_beats(belt, 3, workers) for workers in (1, 2, 3)], is_plan(belt, 3, 2, beats_of(belt, 3))]
[[9, 5, 4], False]
>>> [pace(belt), pace_ring(belt), pace(pair), pace((tasks, ()))]
[(1, 1), (('a', 'b', 0), ('b', 'c', 0), ('c', 'a', 3)), (1, 1), (1, 2)]
>>> [is_pace_paper(belt, (pace_ring(belt), {"a": 0, "b": 1, "c": 2})), is_pace_paper(belt, (pace_ring(belt), {"a": 0, "b": 1, "c": 1}))]
[True, False]
"""

STAGE_6 = """
>>> from unwaited.losing import is_losing_run, losing_length, losing_run
>>> from unwaited.turns import endless_tasks, is_turn, is_turn_paper, leads_back, shift, shifts, turn_paper, turn_table
>>> tasks = (("a", 1, ("two", "+", ("read", "a", 2), ("round",))), ("b", 5, ("two", "*", ("read", "a", 0), ("read", "b", 3))), ("c", 0, ("read", "b", 0)))
>>> belt = (tasks, (("a", "c", 3),))
>>> [shifts(belt, False), shift(belt, "b", "b", True)]
[{('a', 'a'): 5, ('a', 'b'): 5, ('b', 'a'): 6, ('b', 'b'): 3}, 6]
>>> [turn_table(belt, "b", "b", False), turn_table(belt, "a", "a", False), is_turn(belt, ("b", 0), ("b", 3), False), is_turn(belt, ("b", 0), ("b", 3), True), is_turn(belt, ("b", 0), ("b", 4), False)]
[((3, 6), 8, 1, (0,)), ((), 5, 1, (0,)), True, False, False]
>>> [leads_back(belt, "a"), endless_tasks(belt), leads_back((tasks, ()), "a"), endless_tasks((tasks, ())), shifts((tasks, ()), False)]
[True, (), False, ('a', 'b'), {('a', 'b'): 6}]
>>> turn_paper(belt, ("b", 0), ("b", 3), False)
{('b', 3): (), ('c', 0): (('c', 'a', 3), ('a', 'b', 0))}
>>> [turn_paper(belt, ("b", 0), ("b", 3), True), is_turn_paper(belt, ("b", 0), ("b", 3), True, {("b", 3): (), ("c", 0): (("c", "a", 3), ("a", "b", 0))})]
[None, False]
>>> losing_run(belt, ("b", 0), ("b", 3), True)
((('a', 0), True), (('a', 1), True), (('b', 0), True), (('c', 0), True), (('a', 3), True), (('b', 3), False), (('b', 3), True))
>>> [losing_run(belt, ("b", 0), ("b", 3), False), losing_length(belt, ("a", 0), ("a", 1), False)]
[None, 3]
>>> [is_losing_run(belt, ("a", 0), ("a", 1), False, (("a", 0), ("a", 1), ("b", 0))), is_losing_run(belt, ("a", 0), ("a", 1), False, (("a", 1), ("a", 0), ("b", 0)))]
[True, False]
"""

STAGE_7 = """
>>> from unwaited.judged import are_turn_lists, first_clash, is_clash, is_right, losing_run_of, turn_lists
>>> from unwaited.keepings import are_alike, cell_of, cells_many, first_lost, found, kept_steps, longer, numbered, shortest
>>> from unwaited.runs import order_by
>>> tasks = (("a", 0, ("two", "+", ("round",), ("number", 3))), ("b", 0, ("two", "*", ("read", "a", 0), ("number", 2))), ("c", 5, ("two", "+", ("read", "b", 0), ("read", "c", 1))))
>>> chain = (tasks, (("a", "c", 1),))
>>> one = (1, {"a": (0,), "b": (0,), "c": (0,)})
>>> two = (1, {"a": (0,), "b": (0,), "c": (1,)})
>>> half = (2, {"a": (1, None), "b": (1, None), "c": (None, 0)})
>>> [is_right(chain, one, False), is_right(chain, two, False), is_right(chain, two, True), is_right(chain, half, False)]
[False, True, False, True]
>>> [cell_of(half, ("b", 6)), cell_of(half, ("a", 7)), cells_many(half), kept_steps(half)]
[1, None, 2, (('a', 0), ('b', 0), ('c', 1))]
>>> [numbered(half), longer(two, 2)]
[(2, {'a': (0, None), 'b': (0, None), 'c': (None, 1)}), (2, {'a': (0, 0), 'b': (0, 0), 'c': (1, 1)})]
>>> [shortest(longer(half, 3)) == half, are_alike(half, numbered(half)), are_alike(one, two), are_alike(one, longer(one, 4))]
[True, True, False, True]
>>> [turn_lists(chain, two, False), turn_lists(chain, one, False), are_turn_lists(chain, two, False, ((("b", 0), ("a", 0)), (("c", 0),)))]
[((('a', 0), ('b', 0)), (('c', 0),)), None, False]
>>> [first_clash(chain, one, False), first_clash(chain, two, False), is_clash(chain, one, False, (("c", 0), ("a", 2)))]
[(('c', 0), ('a', 1)), None, False]
>>> run = losing_run_of(chain, one)
>>> run == order_by(chain, 2, ())
True
>>> [first_lost(chain, one, run), first_lost(chain, two, run), found(chain, one, run)[5]]
[5, None, (('c', 1), (('b', 0, ('b', 1)), ('c', 1, ('b', 1))))]
"""

STAGE_8 = """
>>> from unwaited.crowds import crowd_clash, crowd_of, greatest_crowd, growing_crowd, is_crowd
>>> from unwaited.matchings import are_numbers, fewest_cells, is_matching, is_whole, least_matching, matching_cells, numbers
>>> tasks = (("a", 1, ("two", "+", ("read", "a", 2), ("round",))), ("b", 5, ("two", "*", ("read", "a", 0), ("read", "b", 3))), ("c", 0, ("read", "b", 0)))
>>> belt = (tasks, (("a", "c", 3),))
>>> [least_matching(belt, False), fewest_cells(belt, False), fewest_cells(belt, True), fewest_cells((tasks, ()), False)]
[{'a': 'a', 'b': 'b'}, 8, 11, None]
>>> [is_matching(belt, False, {"b": "a", "a": "b"}), matching_cells(belt, False, {"b": "a", "a": "b"}), is_matching(belt, False, {"a": "b"}), is_matching((tasks, ()), False, {"a": "a"}), is_whole(belt, {"b": "b"})]
[True, 11, False, False, False]
>>> [are_numbers(belt, False, ({"a": 0, "b": 2}, {"a": 5, "b": 5})), are_numbers(belt, False, ({"a": 0, "b": 1}, {"a": 5, "b": 5})), are_numbers(belt, False, ({"a": 0, "b": 0}, {"a": 0, "b": 0}))]
[True, False, True]
>>> crowd_of({"a": 0, "b": 2}, {"a": 5, "b": 5})
(('a', 0), ('a', 1), ('a', 2), ('a', 3), ('a', 4), ('b', 2), ('b', 3), ('b', 4))
>>> [is_crowd(belt, False, (("a", 0), ("a", 4), ("b", 4))), is_crowd(belt, False, (("a", 0), ("a", 5))), is_crowd(belt, False, (("a", 4), ("a", 0))), len(greatest_crowd(belt, True)), greatest_crowd((tasks, ()), True)]
[True, False, False, 11, None]
>>> [growing_crowd((tasks, ()), "b", 3), crowd_clash(belt, False, (("a", 0), ("a", 6), ("b", 1), ("b", 4))), crowd_clash(belt, True, (("b", 1), ("b", 4)))]
[(('b', 0), ('b', 1), ('b', 2)), (('a', 0), ('a', 6)), None]
"""

STAGE_9 = """
>>> from unwaited.errors import TooMany
>>> from unwaited.shares import corner_keeping, is_best, keeping_with, share_of
>>> from unwaited.stairs import are_prices, cells_for, corner_matching, corners, price_sum, prices, stair
>>> tasks = (("a", 1, ("two", "+", ("read", "a", 2), ("round",))), ("b", 5, ("two", "*", ("read", "a", 0), ("read", "b", 3))), ("c", 0, ("read", "b", 0)))
>>> belt = (tasks, (("a", "c", 3),))
>>> worths = {"a": 1, "b": 1}
>>> [corners(belt, worths, False), corners(belt, worths, True), corners((tasks, ()), worths, False), corners(belt, {"a": 9, "b": 1}, False)]
[((0, 0), (3, 1), (8, 2)), ((0, 0), (5, 1), (11, 2)), ((0, 0),), ((0, 0), (5, 9), (8, 10))]
>>> [corner_matching(belt, worths, 3, False), [stair(belt, worths, m, False) for m in (0, 1, 3, 5, 9)], cells_for(belt, worths, (3, 2), False), cells_for(belt, worths, (5, 2), False)]
[{'b': 'b'}, [(0, 1), (1, 3), (1, 1), (7, 5), (2, 1)], 6, None]
>>> paper = ((1, 5), {"a": (0, 1), "b": (2, 5)}, {"a": (0, 1), "b": (0, 1)})
>>> [are_prices(belt, worths, False, paper), price_sum(paper, 5), price_sum(paper, 1), price_sum(prices(belt, worths, 1, False), 1), are_prices(belt, worths, False, ((1, 5), {"a": (0, 1), "b": (0, 1)}, {"a": (0, 1), "b": (0, 1)}))]
[True, (7, 5), (3, 5), (1, 3), False]
>>> [keeping_with(belt, worths, 1, 1, False), share_of(worths, keeping_with(belt, worths, 1, 3, False)), share_of(worths, keeping_with(belt, worths, 5, 5, False)), share_of(worths, (2, {"a": (0, None), "b": (None, None)}))]
[None, (1, 3), (7, 5), (1, 2)]
>>> [is_best(belt, worths, 5, False, keeping_with(belt, worths, 5, 5, False), paper), is_best(belt, worths, 8, False, corner_keeping(belt, worths, 8, False), prices(belt, worths, 8, False)), is_best(belt, worths, 5, False, corner_keeping(belt, worths, 3, False), paper)]
[True, True, False]
>>> try:
...     keeping_with(belt, worths, 5, 7, False)
... except TooMany as error:
...     print(error.most)
12
"""

STAGE_10 = """
>>> from unwaited.machine import code_of, code_text, run_code, run_keeping
>>> from unwaited.matchings import least_matching
>>> from unwaited.rings import are_right_rings, are_rings, cells_of_rings, keeping_of_rings, matching_of_rings, place_of, rings_of
>>> from unwaited.runs import order_by
>>> tasks = (("a", 0, ("two", "+", ("round",), ("number", 3))), ("b", 0, ("two", "*", ("read", "a", 0), ("number", 2))), ("c", 5, ("two", "+", ("read", "b", 0), ("read", "c", 1))))
>>> chain = (tasks, (("a", "c", 1),))
>>> least_matching(chain, False)
{'a': 'b', 'b': 'a', 'c': 'c'}
>>> rings = rings_of(chain, least_matching(chain, False), False)
>>> rings
((1, (('a', 0), ('b', 0))), (1, (('c', 0),)))
>>> round_about = rings_of(chain, {"a": "b", "b": "c", "c": "a"}, False)
>>> [round_about, rings_of(chain, {"b": "b"}, False), rings_of(chain, {}, False)]
[((2, (('a', 0), ('b', 0), ('c', 0))),), ((1, (('b', 0),)),), ()]
>>> [keeping_of_rings(chain, rings), keeping_of_rings(chain, round_about)]
[(1, {'a': (0,), 'b': (0,), 'c': (1,)}), (2, {'a': (0, 1), 'b': (0, 1), 'c': (0, 1)})]
>>> [cells_of_rings(round_about), place_of(round_about, ("c", 5)), place_of(rings, ("c", 5)), keeping_of_rings(chain, ())]
[2, (0, 1), (1, 0), (1, {'a': (None,), 'b': (None,), 'c': (None,)})]
>>> [are_rings(chain, ((1, (("a", 0), ("c", 0))),)), are_right_rings(chain, False, ((1, (("a", 0), ("c", 0))),)), are_rings(chain, ((1, (("a", 1),)),))]
[True, False, False]
>>> [matching_of_rings(chain, round_about, False), matching_of_rings(chain, rings, False)]
[{'a': 'b', 'b': 'c', 'c': 'a'}, {'a': 'b', 'b': 'a', 'c': 'c'}]
>>> code = code_of(chain, rings)
>>> code["c"]
(('load', 0, 1, 0, 0, 0), ('load', 1, 1, 0, 1, 5), ('two', '+'), ('store', 1, 1, 0))
>>> run = order_by(chain, 2, ())
>>> run_code(code, run)
{('a', 0): 3, ('a', 1): 4, ('b', 0): 6, ('b', 1): 8, ('c', 0): 11, ('c', 1): 19}
>>> run_keeping(chain, (1, {"a": (0,), "b": (0,), "c": (0,)}), run)[("c", 1)]
16
>>> code_text({"a": code["a"], "b": code_of(chain, ())["b"]}).split("\\n")
['a:', 'round', 'push 3', 'two +', 'store 0 1 0', 'b:', 'slow a 0 0', 'push 2', 'two *', 'keep b']
"""

STAGE_11 = """
>>> from unwaited.windows import are_chains, are_window_prices, cells_in, chains_in, counting, crowd_in, from_rounds, is_crowd_in
>>> from unwaited.windows import is_turn_in, kept_in, most_kept_in, window_price_sum, window_prices
>>> tasks = (("a", 1, ("two", "+", ("read", "a", 2), ("round",))), ("b", 5, ("two", "*", ("read", "a", 0), ("read", "b", 3))), ("c", 0, ("read", "b", 0)))
>>> belt = (tasks, (("a", "c", 3),))
>>> [counting(belt, 3), counting((tasks[:1], ()), 3)]
[(('a', 0), ('a', 1), ('a', 2), ('b', 0), ('b', 1), ('b', 2)), (('a', 0),)]
>>> [is_turn_in(belt, 3, ("a", 0), ("b", 0), False), is_turn_in(belt, 2, ("a", 0), ("b", 0), False), is_turn_in(belt, 2, ("a", 0), ("b", 0), True)]
[False, True, False]
>>> [[cells_in(belt, rounds, False) for rounds in (0, 1, 2, 3, 4, 5, 9)], from_rounds(belt, False), from_rounds(belt, True), from_rounds((tasks, ()), False)]
[[0, 1, 2, 4, 6, 8, 8], 5, 6, None]
>>> [chains_in(belt, 1, False), crowd_in(belt, 5, False) == tuple(sorted(crowd_in(belt, 5, False))), len(chains_in(belt, 5, False)), len(crowd_in(belt, 5, False))]
[((('a', 0), ('b', 0)),), True, 8, 8]
>>> [are_chains(belt, 2, False, ((("a", 0), ("b", 0)),)), are_chains(belt, 2, False, ((("a", 0), ("b", 1)),)), is_crowd_in(belt, 4, False, (("a", 0), ("a", 1), ("a", 2), ("a", 3), ("b", 0), ("b", 1)))]
[True, False, True]
>>> [most_kept_in(belt, {"a": 1, "b": 1}, 6, m, False) for m in range(9)]
[0, 3, 5, 7, 8, 9, 10, 11, 12]
>>> paper = window_prices(belt, {"a": 1, "b": 1}, 6, 3, False)
>>> [are_window_prices(belt, {"a": 1, "b": 1}, 6, False, paper), window_price_sum(paper, 3), len(kept_in(belt, {"a": 1, "b": 1}, 6, 3, False))]
[True, 7, 3]
"""

STAGE_12 = """
>>> from unwaited.cuts import cut_everywhere, fewest_for, first_wrong, free_to_cut, is_of_lot, is_right_for, played, price_of_cuts, shifts_for, wrong_cut_run
>>> from unwaited.looptexts import read_loop
>>> loop = read_loop("task a first 7 = a @ 1 + 1\\ntask b first 0 = a * 2 + b @ 1")
>>> [price_of_cuts(read_loop("task a first 7 = a @ 1 + 1")), price_of_cuts(loop)]
[(1, 2), (None, None)]
>>> loop = read_loop("task a first 7 = a @ 1 + 1\\ntask b first 0 = a * 2 + b @ 1\\nwait a b 1")
>>> shifts_for(loop, ("a",))
{('a', 'a'): 2, ('a', 'b'): 1, ('b', 'a'): 2, ('b', 'b'): 1}
>>> [fewest_for(loop, ()), fewest_for(loop, ("a",)), fewest_for(loop, ("b",)), price_of_cuts(loop), free_to_cut(loop)]
[2, 3, 3, (2, 3), ()]
>>> keeping = (1, {"a": (0,), "b": (1,)})
>>> [is_right_for(loop, (), keeping), is_right_for(loop, ("a",), keeping), is_right_for(loop, ("b",), keeping)]
[True, False, False]
>>> again = cut_everywhere(loop, ("b",), (("a", 0), ("b", 0)))
>>> [again, is_of_lot(loop, ("a",), again), first_wrong(loop, keeping, again)]
[((('a', 0), True), (('b', 0), False), (('b', 0), True)), False, None]
>>> played(loop, keeping, ((("a", 0), True), (("b", 0), True), (("a", 1), False), (("a", 1), True)))
((('a', 0), True, ()), (('b', 0), True, (('a', 0, ('a', 0)),)), (('a', 1), False, (('a', 1, ('a', 0)),)), (('a', 1), True, (('a', 1, ('a', 1)),)))
>>> wrong_cut_run(loop, ("a",), keeping)
((('a', 0), True), (('b', 0), True), (('a', 1), False), (('a', 1), True))
"""

STAGE_13 = """
>>> from unwaited.covers import covers, least_waits, needless_waits, parting_run, runs_within, same_runs, struck, with_waits
>>> from unwaited.errors import Dead, Nothing
>>> from unwaited.looptexts import read_loop
>>> from unwaited.saved import best_wait, cells_with, fewest_waits, loop_with, savings
>>> loop = read_loop("task a first 0 = round\\ntask b first 0 = a\\ntask c first 0 = b\\nwait c a 0\\nwait a c 2\\nwait b a 0")
>>> covers(loop)
(('a', 'b', 0), ('b', 'c', 0), ('c', 'a', 2))
>>> [needless_waits(loop), least_waits(loop), struck(loop) == with_waits(loop, (("a", "c", 2),)), same_runs(loop, struck(loop))]
[(('b', 'a', 0), ('c', 'a', 0)), (('a', 'c', 2),), True, True]
>>> free = with_waits(loop, ())
>>> [runs_within(loop, free), runs_within(free, loop), parting_run(free, loop)]
[True, False, (('a', 2),)]
>>> try:
...     parting_run(loop, free)
... except Nothing:
...     print("none")
none
>>> [cells_with(loop, ("a", "b", 3)), cells_with(loop, ("a", "c", 1)), cells_with(free, ("a", "b", 1))]
[2, 1, None]
>>> try:
...     loop_with(loop, ("a", "c", 0))
... except Dead as error:
...     print(error.ring)
(('a', 'c', 0), ('c', 'a', 0))
>>> pair = read_loop("task a first 0 = round\\ntask b first 0 = a")
>>> [savings(pair, 1), best_wait(pair, 3), fewest_waits(pair, 2, 3)]
[{('a', 'a', 1): None, ('a', 'b', 1): 1, ('b', 'a', 0): None, ('b', 'a', 1): None, ('b', 'b', 1): None}, ('a', 'b', 1), (('a', 'b', 1),)]
"""

STAGE_14 = """
>>> from unwaited.errors import Nothing, NoText, Unlike
>>> from unwaited.hall import Hall
>>> from unwaited.logs import everybody_falls, log_text, reopened, whole_lines
>>> tasks = (("a", 0, ("two", "+", ("round",), ("number", 3))), ("b", 0, ("two", "*", ("read", "a", 0), ("number", 2))), ("c", 5, ("two", "+", ("read", "b", 0), ("read", "c", 1))))
>>> chain = (tasks, (("a", "c", 1),))
>>> hall = Hall(chain, (2, {"a": (0, 1), "b": (2, 2), "c": (0, 1)}))
>>> [hall.ask(3), hall.ask(0), hall.ask(3)]
[(('a', 0), ()), None, (('a', 0), ())]
>>> hall.fall(3, 3)
>>> [hall.hands(), hall.cells(), hall.ask(0)]
[{}, (3, None, None), (('a', 0), ())]
>>> try:
...     hall.done(0, 4)
... except Unlike as error:
...     print(error.step)
('a', 0)
>>> hall.done(0, 3)
>>> hall.ask(1)
(('b', 0), (('a', 0, 3),))
>>> hall.done(1, 6)
>>> [hall.ask(1), hall.marks()]
[(('c', 0), (('b', 0, 6), ('c', 1, 5))), {'a': (1, ()), 'b': (1, ()), 'c': (0, ())}]
>>> hall.done(1, 11)
>>> [hall.cells(), hall.slow(), hall.cut_run()]
[(11, None, 6), {}, ((('a', 0), False), (('a', 0), True), (('b', 0), True), (('c', 0), True))]
>>> text = log_text(hall.lines())
>>> text
'ask 3\\nfall 3 3\\nask 0\\ndone 0 3\\nask 1\\ndone 1 6\\nask 1\\ndone 1 11\\n'
>>> again = reopened(chain, (2, {"a": (0, 1), "b": (2, 2), "c": (0, 1)}), text[:-4])
>>> [again == hall, again.hands(), everybody_falls(again), again.ask(5)]
[False, {1: ('c', 0)}, (1,), (('c', 0), (('b', 0, 6), ('c', 1, 5)))]
>>> whole_lines("ask 1\\n\\ndone")
('ask 1', '')
>>> try:
...     reopened(chain, (2, {"a": (0, 1), "b": (2, 2), "c": (0, 1)}), "ask 3\\nask 0\\n")
... except NoText as error:
...     print(error.place)
1
>>> try:
...     hall.done(7, 1)
... except Nothing:
...     print("nothing")
nothing
"""

STAGE_15 = """
>>> from unwaited.desk import Desk
>>> from unwaited.drawings import keeping_text, memory_line, read_keeping, run_lines
>>> from unwaited.errors import Dead, NoCommand, NoText, Nothing
>>> from unwaited.kept import Kept
>>> from unwaited.looptexts import read_loop
>>> loop = read_loop("task a first 7 = a @ 1 + 1\\ntask b first 0 = a * 2 + b @ 1\\nwait a b 1")
>>> keeping = read_keeping(loop, "b - 1\\n# two cells\\na 0 0")
>>> [keeping, keeping_text(loop, keeping)]
[(2, {'a': (0, 0), 'b': (None, 1)}), 'a 0 0\\nb - 1']
>>> run = (("a", 0), ("b", 0), ("a", 1), ("b", 1))
>>> run_lines(loop, keeping, run)
('a 0 reads first to 0', 'b 0 reads a:0 first to slow', 'a 1 reads a:0 to 0', 'b 1 reads a:1 slow to 1')
>>> memory_line(loop, keeping, run[:3])
'a:1 .'
>>> try:
...     read_keeping(loop, "a 0 1\\nb 0")
... except NoText as error:
...     print(error.place)
(1, 2)
>>> kept = Kept(loop)
>>> kept.put_wait(("b", "a", 0))
>>> kept.put_wait(("b", "a", 0))
>>> [kept.cells(), kept.changes(), kept.share(1), kept.worths()]
[2, 1, (1, 1), {'a': 1, 'b': 1}]
>>> kept.strike_needless()
>>> [kept.loop() == loop, kept.changes(), kept == Kept(loop)]
[True, 2, False]
>>> try:
...     kept.put_wait(("a", "b", 0))
... except Dead as error:
...     print(error.ring)
(('a', 'b', 0), ('b', 'a', 0))
>>> kept.undo()
>>> kept.loop()[1]
(('a', 'b', 1), ('b', 'a', 0))
>>> desk = Desk("task a first 7 = a @ 1 + 1\\ntask b first 0 = a * 2 + b @ 1\\nwait a b 1")
>>> [desk.execute(line) for line in ("cells", "matching", "share 1", "price", "shift a b", "covers", "values 3")]
[['2'], ['a a 1', 'b b 1'], ['1'], ['2 3'], ['1'], ['a b 0', 'b a 1'], ['a 8 9 10', 'b 16 34 54']]
>>> [desk.execute(line) for line in ("cuts on", "cells", "matching", " strike  wait a b 1", "cells", "strike task a", "undo", "wait b c 1")]
[['done'], ['3'], ['a b 1', 'b a 2'], ['done'], ['none'], ['refused Nothing'], ['done'], ['refused NoTask']]
>>> try:
...     desk.execute("share")
... except NoCommand as error:
...     print(error.line)
share
"""

ALL = {"stage 1": STAGE_1, "stage 2": STAGE_2, "stage 3": STAGE_3, "stage 4": STAGE_4, "stage 5": STAGE_5,
       "stage 6": STAGE_6, "stage 7": STAGE_7, "stage 8": STAGE_8, "stage 9": STAGE_9, "stage 10": STAGE_10,
       "stage 11": STAGE_11, "stage 12": STAGE_12, "stage 13": STAGE_13, "stage 14": STAGE_14, "stage 15": STAGE_15}
