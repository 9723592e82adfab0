"""[12], its second part: what tells of any value, and the functions beside it."""

import unittest

from support import ANY, ALONE, BELT, PAIR, check_truth, check_unchanged, loop_of, mangled, random_loop, rng_of
from support import slow_arcs, slow_is_live, slow_reads
from unwaited import forms
from unwaited.errors import NoTask

WORDS = ("round", "if", "then", "else", "task", "wait", "first")
GREAT = 10 ** 40 - 1


# The definitions of [2] again, as plainly as they can be said, with recursion.
def integer(thing):
    return type(thing) is int


def count(thing):
    return integer(thing) and thing >= 0


def name(thing):
    return type(thing) is str and 0 < len(thing) < 13 and not set(thing) - set("abcdefghijklmnopqrstuvwxyz") \
        and thing not in WORDS


def value(thing):
    return integer(thing) and 0 <= thing < 10000


def expression(thing):
    if type(thing) is not tuple or not thing or type(thing[0]) is not str:
        return False
    head, *rest = thing
    if head == "number":
        return len(rest) == 1 and value(rest[0])
    if head == "round":
        return not rest
    if head == "read":
        return len(rest) == 2 and name(rest[0]) and count(rest[1])
    if head == "two":
        return len(rest) == 3 and rest[0] in ("+", "-", "*", "<") and expression(rest[1]) and expression(rest[2])
    return head == "if" and len(rest) == 3 and all(expression(part) for part in rest)


def task(thing):
    return type(thing) is tuple and len(thing) == 3 and name(thing[0]) and value(thing[1]) and expression(thing[2])


def wait(thing):
    return type(thing) is tuple and len(thing) == 3 and name(thing[0]) and name(thing[1]) and count(thing[2])


def loop(thing):
    if type(thing) is not tuple or len(thing) != 2 or type(thing[0]) is not tuple or type(thing[1]) is not tuple:
        return False
    if not thing[0] or not all(task(part) for part in thing[0]) or not all(wait(part) for part in thing[1]):
        return False
    names = [part[0] for part in thing[0]]
    if sorted(set(names)) != names or sorted(set(thing[1])) != list(thing[1]):
        return False
    used = {read for part in thing[0] for read, _ in slow_reads(part[2])}
    used |= {one for part in thing[1] for one in part[:2]}
    return used <= set(names)


class Kinds(unittest.TestCase):
    def check_all(self, told, right, things):
        for thing in things:
            check_truth(self, told(thing), right(thing), thing)

    def test_integer(self):
        self.check_all(forms.is_integer, integer, ANY + [-5, GREAT, -GREAT])

    def test_count(self):
        self.check_all(forms.is_count, count, ANY + [0, -1, 1, GREAT])

    def test_name(self):
        things = [*WORDS, "a", "z", "abcdefghijkl", "abcdefghijklm", "", "A", "aB", "a1", "a_", "a b", " a", "a\n",
                  "rounds", "iff", "the", "tasks", "firs", "x" * 12, "x" * 13, "`", "{", "a{", "a`", b"a", ("a",)]
        self.check_all(forms.is_name, name, ANY + things)
        self.assertIs(forms.is_name("zzzzzzzzzzzz"), True)
        self.assertIs(forms.is_name("zzzzzzzzzzzzz"), False)
        for word in WORDS:
            self.assertIs(forms.is_name(word), False)

    def test_value(self):
        self.check_all(forms.is_value, value, ANY + [0, 9999, 10000, -1])
        self.assertIs(forms.is_value(9999), True)
        self.assertIs(forms.is_value(0), True)
        self.assertIs(forms.is_value(10000), False)
        self.assertIs(forms.is_value(True), False)

    def test_fraction(self):
        for thing in [(0, 1), (1, 1), (-1, 1), (3, 2), (-3, 2), (GREAT, 1), (GREAT, GREAT - 1), (1, GREAT)]:
            self.assertIs(forms.is_fraction(thing), True, thing)
        for thing in [(0, 2), (1, 0), (0, 0), (1, -1), (2, 2), (-2, 4), (True, 1), (1, True), (1,), (1, 2, 3), [1, 2],
                      1, "1", (1, "2"), (1, None), (False, 1), (6, 4), (GREAT, GREAT), ((1,), 1)]:
            self.assertIs(forms.is_fraction(thing), False, thing)

    def test_expression(self):
        good = ("two", "-", ("if", ("read", "a", 0), ("number", 9999), ("round",)),
                ("two", "*", ("two", "<", ("number", 0), ("round",)), ("read", "abcdefghijkl", GREAT)))
        self.assertIs(forms.is_expression(good), True)
        things = [*ANY, good, *mangled(good), ("round", 1), ("number", -1), ("number", 10000), ("number",),
                  ("read", "if", 0), ("read", "a", -1), ("read", "a", True), ("read", "a"), ("read", 1, 0),
                  ("two", "/", good, good), ("two", "", good, good), ("two", "+-", good, good), ("two", "+", good),
                  ("two", "+", good, good, good), ("if", good, good), ("if", good, good, good, good), (("round",),),
                  ("two", True, good, good), ("IF", good, good, good), ("else",), ("two", "=", good, good)]
        self.check_all(forms.is_expression, expression, things)

    def test_deep_expressions(self):
        deep = ("round",)
        for _ in range(5000):
            deep = ("two", "+", deep, ("number", 1))
        self.assertIs(forms.is_expression(deep), True)
        self.assertEqual(forms.reads_of(deep), ())
        for _ in range(100):
            deep = ("if", ("number", 1), deep, ("number", -1))
        self.assertIs(forms.is_expression(deep), False)

    def test_task(self):
        good = ("a", 9999, ("two", "+", ("read", "b", 1), ("number", 1)))
        self.check_all(forms.is_task, task, [*ANY, good, *mangled(good), ("if", 0, ("round",)), ("a", -1, ("round",))])
        self.assertIs(forms.is_task(good), True)
        self.assertIs(forms.is_task(("a", True, ("round",))), False)

    def test_wait(self):
        good = ("a", "b", GREAT)
        self.check_all(forms.is_wait, wait, [*ANY, good, *mangled(good), ("a", "a", 0), ("then", "a", 0)])
        self.assertIs(forms.is_wait(("a", "a", 0)), True)
        self.assertIs(forms.is_wait(("a", "a", False)), False)

    def test_loop(self):
        good = ((("a", 7, ("read", "b", 1)), ("b", 0, ("read", "a", 0))), (("a", "b", 1), ("a", "b", 2), ("b", "a", 0)))
        things = [*ANY, good, *mangled(good), BELT, *mangled(BELT), PAIR]
        self.check_all(forms.is_loop, loop, things)
        self.check_all(forms.is_live_loop, lambda thing: loop(thing) and slow_is_live(thing), things)

    def test_loop_edges(self):
        one = ("a", 0, ("round",))
        two = ("b", 0, ("round",))
        for tasks, waits, right in [((), (), False), ((one,), (), True), ((one, one), (), False),
                                    ((two, one), (), False), ((one, two), (), True),
                                    ((one, ("a", 1, ("number", 0))), (), False),
                                    ((one,), (("a", "a", 0), ("a", "a", 0)), False),
                                    ((one,), (("a", "a", 1), ("a", "a", 0)), False),
                                    ((one,), (("a", "a", 0), ("a", "a", 1)), True),
                                    ((one,), (("a", "b", 0),), False), ((one,), (("b", "a", 0),), False),
                                    ((one,), [], False), ([one], (), False),
                                    ((("a", 0, ("read", "b", 0)),), (), False)]:
            self.assertIs(forms.is_loop((tasks, waits)), right, (tasks, waits))
        self.assertIs(forms.is_loop(((one,), (), ())), False)

    def test_live(self):
        self.assertIs(forms.is_live_loop(loop_of(("a", [("a", 0)]))), False)
        self.assertIs(forms.is_live_loop(loop_of(("a", [("a", 1)]))), True)
        self.assertIs(forms.is_live_loop(loop_of(("a", []), ("a", "a", 0))), False)
        self.assertIs(forms.is_live_loop(loop_of(("a", []), ("a", "a", GREAT))), True)
        self.assertIs(forms.is_live_loop(loop_of(("a", [("b", 0)]), ("b", []), ("b", "a", 0))), False)
        self.assertIs(forms.is_live_loop(loop_of(("a", [("b", 0), ("b", 3)]), ("b", []), ("b", "a", 1))), True)
        rng = rng_of(1)
        for _ in range(400):
            thing = random_loop(rng, 5, 2, 4)
            self.assertIs(forms.is_loop(thing), True)
            self.assertIs(forms.is_live_loop(thing), slow_is_live(thing), thing)

    def test_names_in_order(self):
        rng = rng_of(2)
        for _ in range(200):
            thing = random_loop(rng, 5, 1, 3)
            order = forms.names_in_order(thing)
            if slow_is_live(thing):
                self.assertEqual(tuple(sorted(order)), forms.names_of(thing))
            for earlier, later, d in slow_arcs(thing):
                if d == 0 and later in order:
                    self.assertLess(order.index(earlier), order.index(later))


class OfLoops(unittest.TestCase):
    def check_any(self, told, right, one_loop, things):
        for thing in things:
            check_truth(self, told(one_loop, thing), right(one_loop, thing), thing)

    def test_step(self):
        def right(one_loop, thing):
            return type(thing) is tuple and len(thing) == 2 and thing[0] in [part[0] for part in one_loop[0]] \
                and type(thing[1]) is int and thing[1] >= 0
        for one_loop in (BELT, PAIR, ALONE):
            self.check_any(forms.is_step, right, one_loop, [*ANY, ("b", 0), ("c", GREAT), ("d", 0), ("a", -1),
                                                            *mangled(("a", 1)), ("a", 0, 0), ("a", True)])
        self.assertIs(forms.is_step(PAIR, ("b", 3)), True)
        self.assertIs(forms.is_step(PAIR, ("c", 3)), False)
        self.assertIs(forms.is_step(PAIR, ("a", False)), False)

    def test_keeping(self):
        def right(one_loop, thing):
            if type(thing) is not tuple or len(thing) != 2 or not integer(thing[0]) or thing[0] < 1:
                return False
            if type(thing[1]) is not dict or set(thing[1]) != set(forms.read_names(one_loop)):
                return False
            if not all(type(row) is tuple and len(row) == thing[0] for row in thing[1].values()):
                return False
            cells = [cell for row in thing[1].values() for cell in row if cell is not None]
            return all(count(cell) for cell in cells) and set(cells) == set(range(len(set(cells))))
        good = (2, {"b": (1, None), "a": (0, 1)})
        self.assertIs(forms.is_keeping(BELT, good), True)
        things = [*ANY, good, *mangled(good), (1, {"a": (None,), "b": (None,)}), (1, {"a": (1,), "b": (1,)}),
                  (1, {"a": (0,), "b": (2,)}), (2, {"a": (2, 0), "b": (1, 3)}), (1, {"a": (True,), "b": (0,)}),
                  (1, {"a": (False,), "b": (1,)}), (1, {"a": (-1,), "b": (0,)}), (True, {"a": (0,), "b": (0,)}),
                  (1, {"a": (0,), "b": (0,), "c": (0,)}), (1, {"a": [0], "b": (0,)}), (0, {"a": (), "b": ()}),
                  (1, {"a": (0,), "b": (GREAT,)}), (GREAT, {"a": (0,), "b": (0,)}), (1, {"a": ("0",), "b": (0,)})]
        self.check_any(forms.is_keeping, right, BELT, things)
        self.check_any(forms.is_keeping, right, PAIR, [*things, (1, {"a": (0,)}), (3, {"a": (None, 0, None)})])

    def test_keeping_without_read_tasks(self):
        self.assertIs(forms.is_keeping(ALONE, (1, {})), True)
        self.assertIs(forms.is_keeping(ALONE, (GREAT, {})), True)
        self.assertIs(forms.is_keeping(ALONE, (0, {})), False)
        self.assertIs(forms.is_keeping(ALONE, (1, ())), False)
        self.assertIs(forms.is_keeping(ALONE, (1, {"a": (0,)})), False)

    def test_worths(self):
        def right(one_loop, thing):
            return type(thing) is dict and set(thing) == set(forms.read_names(one_loop)) \
                and all(count(worth) and worth <= 1000 for worth in thing.values())
        good = {"b": 0, "a": 1000}
        self.assertIs(forms.are_worths(BELT, good), True)
        self.assertIs(forms.are_worths(BELT, {"a": 1, "b": True}), False)
        self.assertIs(forms.are_worths(BELT, {"a": 1001, "b": 0}), False)
        for one_loop in (BELT, PAIR, ALONE):
            self.check_any(forms.are_worths, right, one_loop, [*ANY, good, *mangled(good), {"a": -1, "b": 0}])
        self.assertIs(forms.are_worths(ALONE, {}), True)

    def test_pairing(self):
        def right(one_loop, thing):
            if type(thing) is not dict:
                return False
            keys, values = list(thing), list(thing.values())
            return all(key in forms.read_names(one_loop) for key in keys) and \
                all(keys.count(other) == values.count(other) for other in keys + values)
        good = {"b": "a", "a": "b"}
        self.assertIs(forms.is_pairing(BELT, good), True)
        things = [*ANY, good, *mangled(good), {"a": "a"}, {"b": "b"}, {"a": "b"}, {"c": "c"}, {"a": "a", "b": "a"}, {},
                  {"a": ["a"]}, {("a",): "a"}, {"a": "a", "b": "b", "c": "c"}, {"a": None},
                  {"a": "a", None: "b"}, {"a": "a", 1: "b"}, {("b",): "b", "a": "a"}, {True: "a", "a": "b"}]
        for one_loop in (BELT, PAIR, ALONE):
            self.check_any(forms.is_pairing, right, one_loop, things)

    def test_reads_and_names(self):
        rng = rng_of(3)
        for _ in range(200):
            one_loop = random_loop(rng, 5, 3, 3)
            for _, _, body in one_loop[0]:
                self.assertEqual(forms.reads_of(body), tuple(sorted(slow_reads(body))))
            read = {earlier for _, _, body in one_loop[0] for earlier, _ in slow_reads(body)}
            self.assertEqual(check_unchanged(self, forms.read_names, one_loop), tuple(sorted(read)))
            self.assertEqual(forms.names_of(one_loop), tuple(part[0] for part in one_loop[0]))
            for part in one_loop[0]:
                self.assertEqual(forms.task_of(one_loop, part[0]), part)

    def test_reads_where_an_if_does_not_go(self):
        body = ("if", ("number", 0), ("read", "a", GREAT), ("if", ("read", "b", 2), ("round",), ("read", "b", 1)))
        self.assertEqual(forms.reads_of(body), (("a", GREAT), ("b", 1), ("b", 2)))
        self.assertEqual(forms.reads_of(("number", 1)), ())
        self.assertEqual(forms.reads_of(("two", "+", ("read", "a", 1), ("read", "a", 1))), (("a", 1),))

    def test_no_task(self):
        for wrong in ("c", "", "A", "round"):
            with self.assertRaises(NoTask) as caught:
                forms.task_of(PAIR, wrong)
            self.assertEqual(caught.exception.name, wrong)

    def test_loops_that_are_not_live(self):
        dead = loop_of(("a", [("b", 0)]), ("b", [("a", 0)]))
        self.assertEqual(forms.read_names(dead), ("a", "b"))
        self.assertEqual(forms.task_of(dead, "b")[0], "b")
        self.assertIs(forms.is_step(dead, ("a", 1)), True)
        self.assertIs(forms.is_keeping(dead, (1, {"a": (0,), "b": (1,)})), True)
        self.assertIs(forms.are_worths(dead, {"a": 0, "b": 1}), True)
        self.assertIs(forms.is_pairing(dead, {"a": "b", "b": "a"}), True)


if __name__ == "__main__":
    unittest.main()
