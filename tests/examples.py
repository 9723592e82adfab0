"""The examples of the document for the modules that are there, to be run as they stand."""

STAGE_1 = """
>>> from unwaited.errors import NoTask
>>> from unwaited.forms import are_worths, is_expression, is_keeping, is_live_loop, is_loop, is_pairing, is_step, read_names, reads_of, task_of
>>> from unwaited.fractions import added, compared, fraction_text, lessened, reduced, times
>>> [reduced(6, -4), added((1, 2), (1, 3)), lessened((1, 2), (1, 2)), times((2, 3), (3, 4)), compared((1, 3), (2, 5)), fraction_text((-3, 2)), fraction_text((4, 1))]
[(-3, 2), (5, 6), (0, 1), (1, 2), -1, '-3/2', '4']
>>> sum_of = ("two", "+", ("read", "a", 1), ("if", ("read", "b", 0), ("read", "a", 1), ("round",)))
>>> [is_expression(sum_of), is_expression(("number", 10000)), is_expression(("read", "if", 0)), reads_of(sum_of)]
[True, False, False, (('a', 1), ('b', 0))]
>>> loop = ((("a", 7, ("read", "a", 1)), ("b", 0, ("read", "a", 0))), (("a", "b", 1),))
>>> turned = (loop[0], (("a", "b", 0),))
>>> [is_live_loop(loop), is_loop(turned), is_live_loop(turned), is_loop((loop[0][:1], loop[1])), read_names(loop)]
[True, True, False, False, ('a',)]
>>> [is_step(loop, ("b", 3)), is_step(loop, ("c", 3)), is_keeping(loop, (2, {"a": (0, None)})), is_keeping(loop, (1, {"a": (1,)})), are_worths(loop, {"a": 1000}), is_pairing(loop, {"b": "b"})]
[True, False, True, False, True, False]
>>> try:
...     task_of(loop, "c")
... except NoTask as error:
...     print(error.name)
c
"""

STAGE_2 = """
>>> from unwaited.errors import NoText
>>> from unwaited.expressions import read_expression, show_expression
>>> from unwaited.looptexts import read_loop, show_loop
>>> deep = ("two", "-", ("read", "a", 0), ("two", "-", ("read", "b", 2), ("two", "*", ("number", 3), ("round",))))
>>> show_expression(deep)
'a - ( b @ 2 - 3 * round )'
>>> [read_expression(show_expression(deep)) == deep, read_expression(" ( a - b ) - 1") == read_expression("a - b - 1")]
[True, True]
>>> show_expression(("two", "<", ("if", ("read", "a", 0), ("number", 1), ("number", 2)), ("round",)))
'( if a then 1 else 2 ) < round'
>>> try:
...     read_expression("a + b @ 0")
... except NoText as error:
...     print(error.place)
4
>>> try:
...     read_expression("( a + 1")
... except NoText as error:
...     print(error.place)
4
>>> loop = read_loop("# a sum\\nwait a b 1\\ntask b first 0 = a * 2\\ntask a first 7 = a @ 1 + 1")
>>> loop
((('a', 7, ('two', '+', ('read', 'a', 1), ('number', 1))), ('b', 0, ('two', '*', ('read', 'a', 0), ('number', 2)))), (('a', 'b', 1),))
>>> [show_loop(loop), read_loop(show_loop(loop)) == loop]
['task a first 7 = a @ 1 + 1\\ntask b first 0 = a * 2\\nwait a b 1', True]
>>> try:
...     read_loop("task a first 7 = b\\ntask a first 8 = 1 +")
... except NoText as error:
...     print(error.place)
(0, 5)
"""

STAGE_3 = """
>>> from unwaited.looptexts import read_loop
>>> from unwaited.meanings import comes_to, first_of, plain_memory, reads_at, value_of, values_of
>>> loop = read_loop("task a first 7 = a @ 2 + 1\\ntask b first 0 = if a < 9 then a * round else b @ 1 - a")
>>> values_of(loop, 4)
{'a': (8, 8, 9, 9), 'b': (0, 8, 9999, 9990)}
>>> [value_of(loop, ("b", 2)), reads_at(loop, ("b", 2)), reads_at(loop, ("a", 1)), first_of(loop, "b")]
[9999, (('a', 0, 9), ('b', 1, 8)), (('a', 2, 7),), 0]
>>> plain_memory(loop, (("a", 1), ("a", 0), ("b", 0), ("a", 2), ("b", 1)))
{('a', 1): 8, ('a', 0): 8, ('b', 0): 0, ('a', 2): 9, ('b', 1): 8}
>>> comes_to(("two", "-", ("read", "a", 3), ("round",)), 10004, {("a", 3): 2})
9998
"""

STAGE_4 = """
>>> from unwaited.arcs import arcs_of, dead_ring, is_ring, lots_of, modulus_of, readers_of
>>> from unwaited.errors import NoTask
>>> from unwaited.paths import is_before, is_path, path_with, steps_before, sum_of
>>> from unwaited.sums import has, in_both, is_reach, is_table, moved, next_in, reach, sum_table, sums_below
>>> tasks = (("a", 1, ("two", "+", ("read", "a", 2), ("round",))), ("b", 5, ("two", "*", ("read", "a", 0), ("read", "b", 3))), ("c", 0, ("read", "b", 0)))
>>> belt = (tasks, (("a", "c", 3),))
>>> arcs_of(belt)
(('a', 'a', 2), ('a', 'b', 0), ('b', 'b', 3), ('b', 'c', 0), ('c', 'a', 3))
>>> [readers_of(belt, "a"), readers_of(belt, "c"), lots_of(belt), modulus_of(belt, "b"), lots_of((tasks, ())), modulus_of((tasks, ()), "b")]
[(('a', 2), ('b', 0)), (), (('a', 'b', 'c'),), 1, (('a',), ('b',), ('c',)), 3]
>>> dead = (tasks, (("a", "c", 0),))
>>> [dead_ring(belt), dead_ring(dead), is_ring(belt, (("a", "a", 2),)), is_ring(belt, (("a", "b", 0),)), is_ring(belt, ())]
[None, (('a', 'b', 0), ('b', 'c', 0), ('c', 'a', 0)), True, False, False]
>>> [sum_table(belt, "a", "a"), sum_table(belt, "b", "a"), sum_table((tasks, ()), "b", "b"), sum_table((tasks, ()), "b", "a")]
[((0,), 2, 1, (0,)), ((3,), 5, 1, (0,)), ((), 0, 3, (0,)), ((), 0, 1, ())]
>>> table = sum_table(belt, "b", "a")
>>> [has(table, 3), has(table, 4), has(table, 999), next_in(table, 4), moved(table, 2), in_both(table, ((), 0, 2, (0,))), is_table(((3,), 5, 2, (0, 1)))]
[True, False, True, 5, ((5,), 7, 1, (0,)), ((), 5, 2, (0,)), False]
>>> [sums_below(belt, "b", "b", 7), reach(belt, "b", 4), is_reach(belt, "b", 4, {"a": (3,), "b": (0, 3), "c": (0,)})]
[(0, 3, 5, 6), {'a': (3,), 'b': (0, 3), 'c': (0, 3)}, False]
>>> path_with(belt, "b", "a", 5)
(('b', 'c', 0), ('c', 'a', 3), ('a', 'a', 2))
>>> [path_with(belt, "b", "a", 4), sum_of(path_with(belt, "a", "c", 3)), is_path(belt, "a", "a", ()), is_path(belt, "a", "b", ()), is_before(belt, ("b", 0), ("a", 3)), is_before(belt, ("b", 0), ("a", 4))]
[None, 3, True, False, True, False]
>>> steps_before(belt, ("a", 4))
(('a', 0), ('a', 1), ('a', 2), ('b', 1), ('c', 1))
>>> try:
...     readers_of(belt, "d")
... except NoTask as error:
...     print(error.name)
d
"""

STAGE_5_RUNS = """
>>> from unwaited.runs import all_orders, closed, is_cut_run, is_run, least_run, order_by, orders_many, ready, whole_steps
>>> pair = ((("a", 0, ("two", "+", ("read", "a", 1), ("number", 1))), ("b", 0, ("two", "*", ("read", "a", 0), ("number", 2)))), ())
>>> [ready(pair, (), 2), ready(pair, (("a", 0),), 2)]
[(('a', 0),), (('a', 1), ('b', 0))]
>>> [order_by(pair, 2, ()), order_by(pair, 2, (7, 1))]
[(('a', 0), ('a', 1), ('b', 0), ('b', 1)), (('a', 0), ('b', 0), ('a', 1), ('b', 1))]
>>> [orders_many(pair, rounds) for rounds in (0, 1, 2, 3)]
[1, 1, 3, 15]
>>> all_orders(pair, 2)[1]
(('a', 0), ('a', 1), ('b', 1), ('b', 0))
>>> [is_run(pair, (("a", 0), ("a", 1), ("b", 1))), is_run(pair, (("a", 1), ("a", 0))), is_run(pair, ())]
[True, False, True]
>>> cut = ((("a", 0), False), (("a", 0), True), (("b", 0), False), (("a", 1), True))
>>> [is_cut_run(pair, cut), is_cut_run(pair, cut[:1] + cut[2:]), whole_steps(cut)]
[True, False, (('a', 0), ('a', 1))]
>>> [closed(pair, [("b", 1)]), least_run(pair, (("b", 1), ("b", 0)))]
[(('a', 0), ('a', 1), ('b', 1)), (('a', 0), ('a', 1), ('b', 0), ('b', 1))]
>>> tasks = (("a", 1, ("two", "+", ("read", "a", 2), ("round",))), ("b", 5, ("two", "*", ("read", "a", 0), ("read", "b", 3))), ("c", 0, ("read", "b", 0)))
>>> belt = (tasks, (("a", "c", 3),))
"""

ALL = {"stage 1": STAGE_1, "stage 2": STAGE_2, "stage 3": STAGE_3, "stage 4": STAGE_4, "runs": STAGE_5_RUNS}
