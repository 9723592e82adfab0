"""What several tests share: loops, values of any kind, and slow, plain ways to find the same answers."""

import copy
import random

from unwaited import errors
from unwaited.desk import Desk
from unwaited.hall import Hall
from unwaited.kept import Kept


def loop_of(*lines):
    """A LOOP whose waits are the triples among lines, the others being couples (name, reads) or names alone."""
    tasks = {}
    waits = []
    for line in lines:
        if len(line) == 3:
            waits.append(line)
        else:
            name, reads = line
            body = ("round",)
            for read in reads:
                body = ("two", "+", body, ("read",) + read)
            tasks[name] = (name, 1, body)
    return (tuple(sorted(tasks.values())), tuple(sorted(waits)))


BELT = loop_of(("a", [("a", 2)]), ("b", [("a", 0), ("b", 3)]), ("c", [("b", 0)]), ("a", "c", 3))
PAIR = loop_of(("a", [("a", 1)]), ("b", [("a", 0)]))
ALONE = ((("a", 0, ("round",)),), ())


def random_expression(rng, names, depth, most):
    """An EXPRESSION that reads names with d of at most most, at least 1 from the third on."""
    kind = rng.randrange(6) if depth > 0 else rng.randrange(3)
    if kind == 0:
        return ("number", rng.choice((0, 1, 2, 9999, rng.randrange(10000))))
    if kind == 1:
        return ("round",)
    if kind == 2 and names:
        return ("read", rng.choice(names), rng.randrange(most + 1))
    if kind == 3:
        return ("if",) + tuple(random_expression(rng, names, depth - 1, most) for _ in range(3))
    if kind > 3:
        parts = tuple(random_expression(rng, names, depth - 1, most) for _ in range(2))
        return ("two", rng.choice("+-*<")) + parts
    return ("round",)


def random_loop(rng, tasks=4, most=3, waits=3):
    """A LOOP, LIVE or not."""
    names = sorted(rng.sample("abcdefghij", rng.randint(1, tasks)))
    told = tuple((name, rng.randrange(100), random_expression(rng, names, 3, most)) for name in names)
    lines = {(rng.choice(names), rng.choice(names), rng.randrange(most + 1)) for _ in range(rng.randint(0, waits))}
    return (told, tuple(sorted(lines)))


def random_live_loop(rng, tasks=4, most=3, waits=3):
    """A LOOP without a RING with the SUM 0, by slow_is_live."""
    while True:
        loop = random_loop(rng, tasks, most, waits)
        if slow_is_live(loop):
            return loop


def slow_reads(expression):
    """All couples that stand in an EXPRESSION, as a set."""
    if expression[0] == "read":
        return {expression[1:]}
    found = set()
    for part in expression[1:]:
        if isinstance(part, tuple):
            found |= slow_reads(part)
    return found


def meant(expression, at, value):
    """What an EXPRESSION comes to, as [2] says it; value tells what is read."""
    head = expression[0]
    if head == "number":
        return expression[1]
    if head == "round":
        return at % 10000
    if head == "read":
        return value(expression[1], expression[2])
    if head == "if":
        return meant(expression[2 if meant(expression[1], at, value) != 0 else 3], at, value)
    one, other = meant(expression[2], at, value), meant(expression[3], at, value)
    return {"+": (one + other) % 10000, "-": (one - other) % 10000, "*": one * other % 10000,
            "<": int(one < other)}[expression[1]]


def slow_arcs(loop):
    """All ARCS, as a set."""
    arcs = {(earlier, later, d) for later, earlier, d in loop[1]}
    for name, _, body in loop[0]:
        arcs |= {(earlier, name, d) for earlier, d in slow_reads(body)}
    return arcs


def slow_is_live(loop):
    """Whether no RING has the SUM 0: PATHS of ARCS with d 0, as long as there are tasks, must come to an end."""
    ends = {task[0] for task in loop[0]}
    for _ in loop[0]:
        ends = {later for earlier, later, d in slow_arcs(loop) if d == 0 and earlier in ends}
    return not ends


def slow_sums(loop, name, most):
    """The set of all couples (later, sum) of PATHS from a task with a SUM up to most."""
    arcs = slow_arcs(loop)
    found = set()
    more = {(name, 0)}
    while more:
        found |= more
        more = {(later, total + d) for at, total in more for earlier, later, d in arcs
                if earlier == at and total + d <= most} - found
    return found


def slow_before(loop, step):
    """The set of all STEPS that are BEFORE a STEP: ARC by ARC back from it."""
    arcs = slow_arcs(loop)
    found = set()
    left = [step]
    while left:
        name, at = left.pop()
        for earlier, later, d in arcs:
            if later == name and at >= d and (earlier, at - d) not in found:
                found.add((earlier, at - d))
                left.append((earlier, at - d))
    return found


def slow_paths(loop, one, other, total, most):
    """All PATHS of at most most ARCS from one to other with a SUM."""
    arcs = sorted(slow_arcs(loop))
    found = []
    begun = [((), one, 0)]
    for _ in range(most + 1):
        found.extend(path for path, at, number in begun if at == other and number == total)
        begun = [(path + (arc,), arc[1], number + arc[2]) for path, at, number in begun
                 for arc in arcs if arc[0] == at and number + arc[2] <= total]
    return found


def window(loop, rounds):
    return tuple((task[0], at) for task in loop[0] for at in range(rounds))


def slow_sets(loop, rounds):
    """All sets of STEPS with which an ORDER can begin."""
    steps = window(loop, rounds)
    before = {step: slow_before(loop, step) for step in steps}
    found = {frozenset()}
    layer = found
    while layer:
        layer = {done | {step} for done in layer for step in steps if step not in done and before[step] <= done}
        found = found | layer
    return found


def many_tasks(groups):
    """A LOOP of groups of tasks that have nothing to do with one another: how many tasks, and WAITS by number."""
    names = iter("abcdefghij")
    lines = []
    for many, waits in groups:
        own = [next(names) for _ in range(many)]
        lines += [(name, []) for name in own] + [(own[later], own[earlier], d) for later, earlier, d in waits]
    return loop_of(*lines)


ANY = [None, True, False, 0, 1, -1, 2, 9999, 10000, 10 ** 40 - 1, -10 ** 39, "", "a", "round", "number", "read", " ",
       "a" * 3000, "a\nb", "~", [], {}, (), [()], (None,), (True,), ((),), ("round",), ["round"], ("number", 1),
       ("number", True), ["number", 1], ("a", 0), ["a", 0], ("a", True), ("a", 0, ("round",)), ("a", "a", 0),
       ("a", "a", False), {"a": 1}, {"a": (0,)}, {"a": "a"}, {1: 2}, {(): []}, {None: None}, {"a": {}}, (1, 2),
       (1, True), (True, 1), (1, {}), (1, {"a": (0,)}), ((), 0, 1, ()), ((), 0, True, ()), (("a", 0),),
       ((("a", 0), True),), ((("a", 0), 1),), (("a", "a", 1),), ("two", "+", ("round",), ("round",)),
       ("if", ("round",), ("round",), ("round",)), ("if", ("round",), ("round",)), ("two", [], (), {}),
       ("two", ("+",), ("round",), ("round",)), ([], {}), ({}, []), ((("a", 0, ("round",)),), ()),
       ([("a", 0, ("round",))], ()), ((["a", 0, ("round",)],), ()), errors.Nothing(), errors.Wrong(0), errors.Wrong,
       errors.NoText((0, 0)), [errors.Dead(())], (errors.NoTask("a"), {}), [[[[[[[[[[[]]]]]]]]]]], Hall(ALONE, (1, {})),
       Kept(ALONE), Desk("task a first 0 = round"), (Hall(ALONE, (1, {})), Kept(ALONE)), ("a", Kept(ALONE)),
       (Kept(ALONE),), {"a": Hall(ALONE, (1, {}))}, ((("a", 0), Kept(ALONE)),), ("two", Kept(ALONE), 0, 0), (1, Kept(ALONE))]


def mangled(thing):
    """Values that are like a value but for one part: exchanged, left out or added, at any depth."""
    strange = (None, True, False, 0, 1, -1, "a", "", (), [], {}, 10 ** 39, ("a", 0), "round")
    found = list(strange)
    if isinstance(thing, tuple):
        found.append(list(thing))
        for at in range(len(thing) + 1):
            found.extend(thing[:at] + (other,) + thing[at:] for other in strange)
        for at, part in enumerate(thing):
            found.append(thing[:at] + thing[at + 1:])
            found.append(thing[:at] + (part,) + thing[at:])
            found.append(thing[:at] + thing[at + 1:at + 2] + (part,) + thing[at + 2:])
            found.extend(thing[:at] + (other,) + thing[at + 1:] for other in mangled(part))
    elif isinstance(thing, dict):
        for key in thing:
            found.append({other: thing[other] for other in thing if other != key})
            found.extend({**thing, key: other} for other in mangled(thing[key]))
        found.extend({**thing, other: 0} for other in (None, 1, "a", "z", ("a", 0)))
        found.append(sorted(thing))
    elif isinstance(thing, int):
        found.extend((thing + 1, thing - 1, str(thing), bool(thing), (thing,)))
    elif isinstance(thing, str):
        found.extend((thing + "a", thing[:-1], thing.upper(), (thing,), thing + " "))
    return found


def same(one, other):
    """Whether two values are equal, truths being no integers, lists no tuples."""
    if type(one) is not type(other):
        return False
    if isinstance(one, (tuple, list)):
        return len(one) == len(other) and all(same(a, b) for a, b in zip(one, other))
    if isinstance(one, dict):
        return set(one) == set(other) and all(same(one[key], other[key]) for key in one)
    return one == other


def check_truth(case, told, right, thing):
    """Checks that a value that tells whether something is so is the right truth."""
    if told is not right:
        case.fail(f"{told!r} for {thing!r}, not {right}")


def check_unchanged(case, call, *arguments):
    """Calls twice and returns what it returns: equal both times, the arguments as they were."""
    before = copy.deepcopy(arguments)
    first = call(*arguments)
    case.assertTrue(same(before, arguments), "an argument has changed")
    second = call(*arguments)
    case.assertTrue(same(first, second), "equal arguments gave unlike results")
    if isinstance(first, (dict, list)):
        case.assertIsNot(first, second)
    return first


def rng_of(number):
    """A source of numbers that are the same each time."""
    return random.Random(number)
