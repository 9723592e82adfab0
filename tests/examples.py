"""The examples of the document for the modules that are there, to be run as they stand."""

STAGE_1 = """
>>> from unwaited.errors import NoTask
>>> from unwaited.forms import are_worths, is_expression, is_keeping, is_live_loop, is_loop, is_pairing, is_step, read_names, reads_of, task_of
>>> from unwaited.fractions import added, compared, fraction_text, lessened, reduced, times
>>> [reduced(6, -4), added((1, 2), (1, 3)), lessened((1, 2), (1, 2)), times((2, 3), (3, 4)), compared((1, 3), (2, 5)), fraction_text((-3, 2)), fraction_text((4, 1))]
[(-3, 2), (5, 6), (0, 1), (1, 2), -1, '-3/2', '4']
>>> sum_of = ("two", "+", ("read", "a", 1), ("if", ("read", "b", 0), ("read", "a", 1), ("round",)))
>>> [is_expression(sum_of), is_expression(("number", 10000)), is_expression(("read", "if", 0)), reads_of(sum_of)]
[True, False, False, (('a', 1), ('b', 0))]
>>> loop = ((("a", 7, ("read", "a", 1)), ("b", 0, ("read", "a", 0))), (("a", "b", 1),))
>>> turned = (loop[0], (("a", "b", 0),))
>>> [is_live_loop(loop), is_loop(turned), is_live_loop(turned), is_loop((loop[0][:1], loop[1])), read_names(loop)]
[True, True, False, False, ('a',)]
>>> [is_step(loop, ("b", 3)), is_step(loop, ("c", 3)), is_keeping(loop, (2, {"a": (0, None)})), is_keeping(loop, (1, {"a": (1,)})), are_worths(loop, {"a": 1000}), is_pairing(loop, {"b": "b"})]
[True, False, True, False, True, False]
>>> try:
...     task_of(loop, "c")
... except NoTask as error:
...     print(error.name)
c
"""

STAGE_2 = """
>>> from unwaited.errors import NoText
>>> from unwaited.expressions import read_expression, show_expression
>>> from unwaited.looptexts import read_loop, show_loop
>>> deep = ("two", "-", ("read", "a", 0), ("two", "-", ("read", "b", 2), ("two", "*", ("number", 3), ("round",))))
>>> show_expression(deep)
'a - ( b @ 2 - 3 * round )'
>>> [read_expression(show_expression(deep)) == deep, read_expression(" ( a - b ) - 1") == read_expression("a - b - 1")]
[True, True]
>>> show_expression(("two", "<", ("if", ("read", "a", 0), ("number", 1), ("number", 2)), ("round",)))
'( if a then 1 else 2 ) < round'
>>> try:
...     read_expression("a + b @ 0")
... except NoText as error:
...     print(error.place)
4
>>> try:
...     read_expression("( a + 1")
... except NoText as error:
...     print(error.place)
4
>>> loop = read_loop("# a sum\\nwait a b 1\\ntask b first 0 = a * 2\\ntask a first 7 = a @ 1 + 1")
>>> loop
((('a', 7, ('two', '+', ('read', 'a', 1), ('number', 1))), ('b', 0, ('two', '*', ('read', 'a', 0), ('number', 2)))), (('a', 'b', 1),))
>>> [show_loop(loop), read_loop(show_loop(loop)) == loop]
['task a first 7 = a @ 1 + 1\\ntask b first 0 = a * 2\\nwait a b 1', True]
>>> try:
...     read_loop("task a first 7 = b\\ntask a first 8 = 1 +")
... except NoText as error:
...     print(error.place)
(0, 5)
"""

STAGE_3 = """
>>> from unwaited.looptexts import read_loop
>>> from unwaited.meanings import comes_to, first_of, plain_memory, reads_at, value_of, values_of
>>> loop = read_loop("task a first 7 = a @ 2 + 1\\ntask b first 0 = if a < 9 then a * round else b @ 1 - a")
>>> values_of(loop, 4)
{'a': (8, 8, 9, 9), 'b': (0, 8, 9999, 9990)}
>>> [value_of(loop, ("b", 2)), reads_at(loop, ("b", 2)), reads_at(loop, ("a", 1)), first_of(loop, "b")]
[9999, (('a', 0, 9), ('b', 1, 8)), (('a', 2, 7),), 0]
>>> plain_memory(loop, (("a", 1), ("a", 0), ("b", 0), ("a", 2), ("b", 1)))
{('a', 1): 8, ('a', 0): 8, ('b', 0): 0, ('a', 2): 9, ('b', 1): 8}
>>> comes_to(("two", "-", ("read", "a", 3), ("round",)), 10004, {("a", 3): 2})
9998
"""

STAGE_4 = """
>>> from unwaited.arcs import arcs_of, dead_ring, is_ring, lots_of, modulus_of, readers_of
>>> from unwaited.errors import NoTask
>>> from unwaited.paths import is_before, is_path, path_with, steps_before, sum_of
>>> from unwaited.sums import has, in_both, is_reach, is_table, moved, next_in, reach, sum_table, sums_below
>>> tasks = (("a", 1, ("two", "+", ("read", "a", 2), ("round",))), ("b", 5, ("two", "*", ("read", "a", 0), ("read", "b", 3))), ("c", 0, ("read", "b", 0)))
>>> belt = (tasks, (("a", "c", 3),))
>>> arcs_of(belt)
(('a', 'a', 2), ('a', 'b', 0), ('b', 'b', 3), ('b', 'c', 0), ('c', 'a', 3))
>>> [readers_of(belt, "a"), readers_of(belt, "c"), lots_of(belt), modulus_of(belt, "b"), lots_of((tasks, ())), modulus_of((tasks, ()), "b")]
[(('a', 2), ('b', 0)), (), (('a', 'b', 'c'),), 1, (('a',), ('b',), ('c',)), 3]
>>> dead = (tasks, (("a", "c", 0),))
>>> [dead_ring(belt), dead_ring(dead), is_ring(belt, (("a", "a", 2),)), is_ring(belt, (("a", "b", 0),)), is_ring(belt, ())]
[None, (('a', 'b', 0), ('b', 'c', 0), ('c', 'a', 0)), True, False, False]
>>> [sum_table(belt, "a", "a"), sum_table(belt, "b", "a"), sum_table((tasks, ()), "b", "b"), sum_table((tasks, ()), "b", "a")]
[((0,), 2, 1, (0,)), ((3,), 5, 1, (0,)), ((), 0, 3, (0,)), ((), 0, 1, ())]
>>> table = sum_table(belt, "b", "a")
>>> [has(table, 3), has(table, 4), has(table, 999), next_in(table, 4), moved(table, 2), in_both(table, ((), 0, 2, (0,))), is_table(((3,), 5, 2, (0, 1)))]
[True, False, True, 5, ((5,), 7, 1, (0,)), ((), 5, 2, (0,)), False]
>>> [sums_below(belt, "b", "b", 7), reach(belt, "b", 4), is_reach(belt, "b", 4, {"a": (3,), "b": (0, 3), "c": (0,)})]
[(0, 3, 5, 6), {'a': (3,), 'b': (0, 3), 'c': (0, 3)}, False]
>>> path_with(belt, "b", "a", 5)
(('b', 'c', 0), ('c', 'a', 3), ('a', 'a', 2))
>>> [path_with(belt, "b", "a", 4), sum_of(path_with(belt, "a", "c", 3)), is_path(belt, "a", "a", ()), is_path(belt, "a", "b", ()), is_before(belt, ("b", 0), ("a", 3)), is_before(belt, ("b", 0), ("a", 4))]
[None, 3, True, False, True, False]
>>> steps_before(belt, ("a", 4))
(('a', 0), ('a', 1), ('a', 2), ('b', 1), ('c', 1))
>>> try:
...     readers_of(belt, "d")
... except NoTask as error:
...     print(error.name)
d
"""

STAGE_5 = """
>>> from unwaited.beats import beat_of, beats_of, fewest_beats, is_pace_paper, is_plan, pace, pace_ring, plan_by_heights
>>> from unwaited.runs import all_orders, closed, is_cut_run, is_run, least_run, order_by, orders_many, ready, whole_steps
>>> pair = ((("a", 0, ("two", "+", ("read", "a", 1), ("number", 1))), ("b", 0, ("two", "*", ("read", "a", 0), ("number", 2)))), ())
>>> [ready(pair, (), 2), ready(pair, (("a", 0),), 2)]
[(('a', 0),), (('a', 1), ('b', 0))]
>>> [order_by(pair, 2, ()), order_by(pair, 2, (7, 1))]
[(('a', 0), ('a', 1), ('b', 0), ('b', 1)), (('a', 0), ('b', 0), ('a', 1), ('b', 1))]
>>> [orders_many(pair, rounds) for rounds in (0, 1, 2, 3)]
[1, 1, 3, 15]
>>> all_orders(pair, 2)[1]
(('a', 0), ('a', 1), ('b', 1), ('b', 0))
>>> [is_run(pair, (("a", 0), ("a", 1), ("b", 1))), is_run(pair, (("a", 1), ("a", 0))), is_run(pair, ())]
[True, False, True]
>>> cut = ((("a", 0), False), (("a", 0), True), (("b", 0), False), (("a", 1), True))
>>> [is_cut_run(pair, cut), is_cut_run(pair, cut[:1] + cut[2:]), whole_steps(cut)]
[True, False, (('a', 0), ('a', 1))]
>>> [closed(pair, [("b", 1)]), least_run(pair, (("b", 1), ("b", 0)))]
[(('a', 0), ('a', 1), ('b', 1)), (('a', 0), ('a', 1), ('b', 0), ('b', 1))]
>>> tasks = (("a", 1, ("two", "+", ("read", "a", 2), ("round",))), ("b", 5, ("two", "*", ("read", "a", 0), ("read", "b", 3))), ("c", 0, ("read", "b", 0)))
>>> belt = (tasks, (("a", "c", 3),))
>>> [beat_of(belt, ("a", 3)), beat_of(belt, ("b", 7)), beats_of(pair, 2)]
[3, 7, ((('a', 0),), (('a', 1), ('b', 0)), (('b', 1),))]
>>> plan_by_heights(belt, 3, 2)
((('a', 0), ('a', 1)), (('a', 2), ('b', 0)), (('b', 1), ('b', 2)), (('c', 0), ('c', 1)), (('c', 2),))
>>> [[fewest_beats(belt, 3, workers) for workers in (1, 2, 3)], is_plan(belt, 3, 2, beats_of(belt, 3))]
[[9, 5, 4], False]
>>> [pace(belt), pace_ring(belt), pace(pair), pace((tasks, ()))]
[(1, 1), (('a', 'b', 0), ('b', 'c', 0), ('c', 'a', 3)), (1, 1), (1, 2)]
>>> [is_pace_paper(belt, (pace_ring(belt), {"a": 0, "b": 1, "c": 2})), is_pace_paper(belt, (pace_ring(belt), {"a": 0, "b": 1, "c": 1}))]
[True, False]
"""

STAGE_6 = """
>>> from unwaited.losing import is_losing_run, losing_length, losing_run
>>> from unwaited.turns import endless_tasks, is_turn, is_turn_paper, leads_back, shift, shifts, turn_paper, turn_table
>>> tasks = (("a", 1, ("two", "+", ("read", "a", 2), ("round",))), ("b", 5, ("two", "*", ("read", "a", 0), ("read", "b", 3))), ("c", 0, ("read", "b", 0)))
>>> belt = (tasks, (("a", "c", 3),))
>>> [shifts(belt, False), shift(belt, "b", "b", True)]
[{('a', 'a'): 5, ('a', 'b'): 5, ('b', 'a'): 6, ('b', 'b'): 3}, 6]
>>> [turn_table(belt, "b", "b", False), turn_table(belt, "a", "a", False), is_turn(belt, ("b", 0), ("b", 3), False), is_turn(belt, ("b", 0), ("b", 3), True), is_turn(belt, ("b", 0), ("b", 4), False)]
[((3, 6), 8, 1, (0,)), ((), 5, 1, (0,)), True, False, False]
>>> [leads_back(belt, "a"), endless_tasks(belt), leads_back((tasks, ()), "a"), endless_tasks((tasks, ())), shifts((tasks, ()), False)]
[True, (), False, ('a', 'b'), {('a', 'b'): 6}]
>>> turn_paper(belt, ("b", 0), ("b", 3), False)
{('b', 3): (), ('c', 0): (('c', 'a', 3), ('a', 'b', 0))}
>>> [turn_paper(belt, ("b", 0), ("b", 3), True), is_turn_paper(belt, ("b", 0), ("b", 3), True, {("b", 3): (), ("c", 0): (("c", "a", 3), ("a", "b", 0))})]
[None, False]
>>> losing_run(belt, ("b", 0), ("b", 3), True)
((('a', 0), True), (('a', 1), True), (('b', 0), True), (('c', 0), True), (('a', 3), True), (('b', 3), False), (('b', 3), True))
>>> [losing_run(belt, ("b", 0), ("b", 3), False), losing_length(belt, ("a", 0), ("a", 1), False)]
[None, 3]
>>> [is_losing_run(belt, ("a", 0), ("a", 1), False, (("a", 0), ("a", 1), ("b", 0))), is_losing_run(belt, ("a", 0), ("a", 1), False, (("a", 1), ("a", 0), ("b", 0)))]
[True, False]
"""

STAGE_7 = """
>>> from unwaited.judged import are_turn_lists, first_clash, is_clash, is_right, losing_run_of, turn_lists
>>> from unwaited.keepings import are_alike, cell_of, cells_many, first_lost, found, kept_steps, longer, numbered, shortest
>>> from unwaited.runs import order_by
>>> tasks = (("a", 0, ("two", "+", ("round",), ("number", 3))), ("b", 0, ("two", "*", ("read", "a", 0), ("number", 2))), ("c", 5, ("two", "+", ("read", "b", 0), ("read", "c", 1))))
>>> chain = (tasks, (("a", "c", 1),))
>>> one = (1, {"a": (0,), "b": (0,), "c": (0,)})
>>> two = (1, {"a": (0,), "b": (0,), "c": (1,)})
>>> half = (2, {"a": (1, None), "b": (1, None), "c": (None, 0)})
>>> [is_right(chain, one, False), is_right(chain, two, False), is_right(chain, two, True), is_right(chain, half, False)]
[False, True, False, True]
>>> [cell_of(half, ("b", 6)), cell_of(half, ("a", 7)), cells_many(half), kept_steps(half)]
[1, None, 2, (('a', 0), ('b', 0), ('c', 1))]
>>> [numbered(half), longer(two, 2)]
[(2, {'a': (0, None), 'b': (0, None), 'c': (None, 1)}), (2, {'a': (0, 0), 'b': (0, 0), 'c': (1, 1)})]
>>> [shortest(longer(half, 3)) == half, are_alike(half, numbered(half)), are_alike(one, two), are_alike(one, longer(one, 4))]
[True, True, False, True]
>>> [turn_lists(chain, two, False), turn_lists(chain, one, False), are_turn_lists(chain, two, False, ((("b", 0), ("a", 0)), (("c", 0),)))]
[((('a', 0), ('b', 0)), (('c', 0),)), None, False]
>>> [first_clash(chain, one, False), first_clash(chain, two, False), is_clash(chain, one, False, (("c", 0), ("a", 2)))]
[(('c', 0), ('a', 1)), None, False]
>>> run = losing_run_of(chain, one)
>>> run == order_by(chain, 2, ())
True
>>> [first_lost(chain, one, run), first_lost(chain, two, run), found(chain, one, run)[5]]
[5, None, (('c', 1), (('b', 0, ('b', 1)), ('c', 1, ('b', 1))))]
"""

STAGE_8 = """
>>> from unwaited.crowds import crowd_clash, crowd_of, greatest_crowd, growing_crowd, is_crowd
>>> from unwaited.matchings import are_numbers, fewest_cells, is_matching, is_whole, least_matching, matching_cells, numbers
>>> tasks = (("a", 1, ("two", "+", ("read", "a", 2), ("round",))), ("b", 5, ("two", "*", ("read", "a", 0), ("read", "b", 3))), ("c", 0, ("read", "b", 0)))
>>> belt = (tasks, (("a", "c", 3),))
>>> [least_matching(belt, False), fewest_cells(belt, False), fewest_cells(belt, True), fewest_cells((tasks, ()), False)]
[{'a': 'a', 'b': 'b'}, 8, 11, None]
>>> [is_matching(belt, False, {"b": "a", "a": "b"}), matching_cells(belt, False, {"b": "a", "a": "b"}), is_matching(belt, False, {"a": "b"}), is_matching((tasks, ()), False, {"a": "a"}), is_whole(belt, {"b": "b"})]
[True, 11, False, False, False]
>>> [are_numbers(belt, False, ({"a": 0, "b": 2}, {"a": 5, "b": 5})), are_numbers(belt, False, ({"a": 0, "b": 1}, {"a": 5, "b": 5})), are_numbers(belt, False, ({"a": 0, "b": 0}, {"a": 0, "b": 0}))]
[True, False, True]
>>> crowd_of({"a": 0, "b": 2}, {"a": 5, "b": 5})
(('a', 0), ('a', 1), ('a', 2), ('a', 3), ('a', 4), ('b', 2), ('b', 3), ('b', 4))
>>> [is_crowd(belt, False, (("a", 0), ("a", 4), ("b", 4))), is_crowd(belt, False, (("a", 0), ("a", 5))), is_crowd(belt, False, (("a", 4), ("a", 0))), len(greatest_crowd(belt, True)), greatest_crowd((tasks, ()), True)]
[True, False, False, 11, None]
>>> [growing_crowd((tasks, ()), "b", 3), crowd_clash(belt, False, (("a", 0), ("a", 6), ("b", 1), ("b", 4))), crowd_clash(belt, True, (("b", 1), ("b", 4)))]
[(('b', 0), ('b', 1), ('b', 2)), (('a', 0), ('a', 6)), None]
"""

STAGE_9 = """
>>> from unwaited.errors import TooMany
>>> from unwaited.shares import corner_keeping, is_best, keeping_with, share_of
>>> from unwaited.stairs import are_prices, cells_for, corner_matching, corners, price_sum, prices, stair
>>> tasks = (("a", 1, ("two", "+", ("read", "a", 2), ("round",))), ("b", 5, ("two", "*", ("read", "a", 0), ("read", "b", 3))), ("c", 0, ("read", "b", 0)))
>>> belt = (tasks, (("a", "c", 3),))
>>> worths = {"a": 1, "b": 1}
>>> [corners(belt, worths, False), corners(belt, worths, True), corners((tasks, ()), worths, False), corners(belt, {"a": 9, "b": 1}, False)]
[((0, 0), (3, 1), (8, 2)), ((0, 0), (5, 1), (11, 2)), ((0, 0),), ((0, 0), (5, 9), (8, 10))]
>>> [corner_matching(belt, worths, 3, False), [stair(belt, worths, m, False) for m in (0, 1, 3, 5, 9)], cells_for(belt, worths, (3, 2), False), cells_for(belt, worths, (5, 2), False)]
[{'b': 'b'}, [(0, 1), (1, 3), (1, 1), (7, 5), (2, 1)], 6, None]
>>> paper = ((1, 5), {"a": (0, 1), "b": (2, 5)}, {"a": (0, 1), "b": (0, 1)})
>>> [are_prices(belt, worths, False, paper), price_sum(paper, 5), price_sum(paper, 1), price_sum(prices(belt, worths, 1, False), 1), are_prices(belt, worths, False, ((1, 5), {"a": (0, 1), "b": (0, 1)}, {"a": (0, 1), "b": (0, 1)}))]
[True, (7, 5), (3, 5), (1, 3), False]
>>> [keeping_with(belt, worths, 1, 1, False), share_of(worths, keeping_with(belt, worths, 1, 3, False)), share_of(worths, keeping_with(belt, worths, 5, 5, False)), share_of(worths, (2, {"a": (0, None), "b": (None, None)}))]
[None, (1, 3), (7, 5), (1, 2)]
>>> [is_best(belt, worths, 5, False, keeping_with(belt, worths, 5, 5, False), paper), is_best(belt, worths, 8, False, corner_keeping(belt, worths, 8, False), prices(belt, worths, 8, False)), is_best(belt, worths, 5, False, corner_keeping(belt, worths, 3, False), paper)]
[True, True, False]
>>> try:
...     keeping_with(belt, worths, 5, 7, False)
... except TooMany as error:
...     print(error.most)
12
"""

STAGE_10_RINGS = """
>>> from unwaited.matchings import least_matching
>>> from unwaited.rings import are_right_rings, are_rings, cells_of_rings, keeping_of_rings, matching_of_rings, place_of, rings_of
>>> tasks = (("a", 0, ("two", "+", ("round",), ("number", 3))), ("b", 0, ("two", "*", ("read", "a", 0), ("number", 2))), ("c", 5, ("two", "+", ("read", "b", 0), ("read", "c", 1))))
>>> chain = (tasks, (("a", "c", 1),))
>>> least_matching(chain, False)
{'a': 'b', 'b': 'a', 'c': 'c'}
>>> rings = rings_of(chain, least_matching(chain, False), False)
>>> rings
((1, (('a', 0), ('b', 0))), (1, (('c', 0),)))
>>> round_about = rings_of(chain, {"a": "b", "b": "c", "c": "a"}, False)
>>> [round_about, rings_of(chain, {"b": "b"}, False), rings_of(chain, {}, False)]
[((2, (('a', 0), ('b', 0), ('c', 0))),), ((1, (('b', 0),)),), ()]
>>> [keeping_of_rings(chain, rings), keeping_of_rings(chain, round_about)]
[(1, {'a': (0,), 'b': (0,), 'c': (1,)}), (2, {'a': (0, 1), 'b': (0, 1), 'c': (0, 1)})]
>>> [cells_of_rings(round_about), place_of(round_about, ("c", 5)), place_of(rings, ("c", 5)), keeping_of_rings(chain, ())]
[2, (0, 1), (1, 0), (1, {'a': (None,), 'b': (None,), 'c': (None,)})]
>>> [are_rings(chain, ((1, (("a", 0), ("c", 0))),)), are_right_rings(chain, False, ((1, (("a", 0), ("c", 0))),)), are_rings(chain, ((1, (("a", 1),)),))]
[True, False, False]
>>> [matching_of_rings(chain, round_about, False), matching_of_rings(chain, rings, False)]
[{'a': 'b', 'b': 'c', 'c': 'a'}, {'a': 'b', 'b': 'a', 'c': 'c'}]
"""

ALL = {"stage 1": STAGE_1, "stage 2": STAGE_2, "stage 3": STAGE_3, "stage 4": STAGE_4, "stage 5": STAGE_5,
       "stage 6": STAGE_6, "stage 7": STAGE_7, "stage 8": STAGE_8, "stage 9": STAGE_9, "rings": STAGE_10_RINGS}
