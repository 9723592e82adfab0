"""Tells of any value whether it is a NAME, an EXPRESSION, a LOOP and so on; and takes these apart."""

from math import gcd

from unwaited.errors import NoTask

MOST_LETTERS = 12
NO_NAMES = ("round", "if", "then", "else", "task", "wait", "first")
GREATEST_VALUE = 9999
GREATEST_WORTH = 1000
OPERATORS = ("+", "-", "*", "<")


def is_integer(thing):
    """Tells whether any value is an integer; truths are none, although Python counts them as such."""
    return isinstance(thing, int) and not isinstance(thing, bool)


def is_count(thing):
    """Tells whether any value is an integer from 0 on."""
    return is_integer(thing) and thing >= 0


def is_name(thing):
    """Tells whether any value is a NAME."""
    if not isinstance(thing, str) or not 1 <= len(thing) <= MOST_LETTERS:
        return False
    return thing not in NO_NAMES and all(["a" <= letter <= "z" for letter in thing])


def is_value(thing):
    """Tells whether any value is a VALUE."""
    return is_count(thing) and thing <= GREATEST_VALUE


def is_tuple_of(thing, many):
    """Tells whether any value is a tuple with so many items."""
    return isinstance(thing, tuple) and len(thing) == many


def is_ascending(items):
    """Tells whether each item, of those that can be compared, is less than the next one."""
    return all([items[at] < items[at + 1] for at in range(len(items) - 1)])


def is_fraction(thing):
    """Tells whether any value is a FRACTION."""
    if not is_tuple_of(thing, 2) or not is_integer(thing[0]) or not is_integer(thing[1]):
        return False
    return thing[1] >= 1 and gcd(thing[0], thing[1]) == 1


def inner_parts(expression):
    """Returns the EXPRESSIONS of which an EXPRESSION is made, in order."""
    if expression[0] == "two":
        return expression[2:]
    if expression[0] == "if":
        return expression[1:]
    return ()


def has_right_shape(thing):
    """Tells whether any value has the shape of an EXPRESSION, whatever stands where its inner parts should."""
    if not isinstance(thing, tuple) or len(thing) == 0:
        return False
    if thing[0] == "number":
        return len(thing) == 2 and is_value(thing[1])
    if thing[0] == "read":
        return len(thing) == 3 and is_name(thing[1]) and is_count(thing[2])
    if thing[0] == "two":
        return len(thing) == 4 and thing[1] in OPERATORS
    return thing == ("round",) or (thing[0] == "if" and len(thing) == 4)


def is_expression(thing):
    """Tells whether any value is an EXPRESSION."""
    # A list of what is still to be looked at, as calls within calls would bound the depth.
    left = [thing]
    while left:
        part = left.pop()
        if not has_right_shape(part):
            return False
        left.extend(inner_parts(part))
    return True


def is_task(thing):
    """Tells whether any value is a TASK."""
    return is_tuple_of(thing, 3) and is_name(thing[0]) and is_value(thing[1]) and is_expression(thing[2])


def is_wait(thing):
    """Tells whether any value is a WAIT."""
    return is_tuple_of(thing, 3) and is_name(thing[0]) and is_name(thing[1]) and is_count(thing[2])


def are_tasks(thing):
    """Tells whether any value is a tuple of at least one TASK, the names ascending."""
    if not isinstance(thing, tuple) or len(thing) == 0 or not all([is_task(task) for task in thing]):
        return False
    return is_ascending([task[0] for task in thing])


def are_waits(thing):
    """Tells whether any value is an ascending tuple of WAITS."""
    if not isinstance(thing, tuple) or not all([is_wait(wait) for wait in thing]):
        return False
    return is_ascending(thing)


def is_loop(thing):
    """Tells whether any value is a LOOP, LIVE or not."""
    if not is_tuple_of(thing, 2) or not are_tasks(thing[0]) or not are_waits(thing[1]):
        return False
    known = {task[0]: True for task in thing[0]}
    return all([earlier in known and later in known for earlier, later, _ in told_arcs(thing)])


def is_live_loop(thing):
    """Tells whether any value is a LOOP that is LIVE."""
    return is_loop(thing) and len(names_in_order(thing)) == len(thing[0])


def is_step(loop, thing):
    """Tells whether any value is a STEP of one of the loop's TASKS."""
    return is_tuple_of(thing, 2) and thing[0] in names_of(loop) and is_count(thing[1])


def has_just_keys(thing, keys):
    """Tells whether any value is a dict that has just these keys, in any order."""
    return isinstance(thing, dict) and len(thing) == len(keys) and all([key in thing for key in keys])


def is_keeping(loop, thing):
    """Tells whether any value is a KEEPING of the loop, RIGHT or not."""
    if not is_tuple_of(thing, 2) or not is_integer(thing[0]) or thing[0] < 1:
        return False
    period, rows = thing
    if not has_just_keys(rows, read_names(loop)):
        return False
    if not all([is_tuple_of(row, period) for row in rows.values()]):
        return False
    cells = [cell for row in rows.values() for cell in row if cell is not None]
    if not all([is_count(cell) for cell in cells]):
        return False
    # With no number twice, all from 0 up to the greatest one occur exactly if they are as many.
    return len(cells) == 0 or len(set(cells)) == max(cells) + 1


def are_worths(loop, thing):
    """Tells whether any value is WORTHS of the loop."""
    if not has_just_keys(thing, read_names(loop)):
        return False
    return all([is_count(worth) and worth <= GREATEST_WORTH for worth in thing.values()])


def is_pairing(loop, thing):
    """Tells whether any value has the form of a MATCHING of the loop, whether there are SHIFTS or not."""
    if not isinstance(thing, dict):
        return False
    names = read_names(loop)
    if not all([one in names and other in names for one, other in thing.items()]):
        return False
    return sorted(list(thing)) == sorted(list(thing.values()))


def parts_of(expression):
    """Returns the list of all parts of an EXPRESSION, however deep: each ahead of its own inner parts,
    and these from the last one to the first one. (So backwards each stands behind its inner parts in order.)"""
    parts = []
    left = [expression]
    while left:
        part = left.pop()
        parts.append(part)
        left.extend(inner_parts(part))
    return parts


def reads_of(expression):
    """Returns the ascending tuple of all couples (name, d) that an EXPRESSION reads."""
    return tuple(sorted(set([part[1:] for part in parts_of(expression) if part[0] == "read"])))


def read_names(loop):
    """Returns the ascending tuple of the names of the READ tasks."""
    return tuple(sorted(set([name for task in loop[0] for name, _ in reads_of(task[2])])))


def names_of(loop):
    """Returns the ascending tuple of the names of all tasks."""
    return tuple([task[0] for task in loop[0]])


def task_of(loop, name):
    """Returns the TASK with this name; raises NoTask(name) if there is none."""
    for task in loop[0]:
        if task[0] == name:
            return task
    raise NoTask(name)


def told_arcs(loop):
    """Returns a list of the ARCS of a LOOP as its TASKS and WAITS tell them, some perhaps twice."""
    arcs = []
    for later, _, body in loop[0]:
        for earlier, d in reads_of(body):
            arcs.append((earlier, later, d))
    for later, earlier, d in loop[1]:
        arcs.append((earlier, later, d))
    return arcs


def names_in_order(loop):
    """Returns a list of names, each behind all from which ARCS with d 0 lead to it: the order in which the STEPS
    of one round can be worked out. All names are in it exactly if the LOOP is LIVE: those on a RING with the
    SUM 0, and those behind it, never get their turn."""
    behind = {name: [] for name in names_of(loop)}
    ahead_many = {name: 0 for name in names_of(loop)}
    for earlier, later, d in told_arcs(loop):
        if d == 0:
            behind[earlier].append(later)
            ahead_many[later] += 1
    order = [name for name, many in ahead_many.items() if many == 0]
    at = 0
    while at < len(order):
        name = order[at]
        for later in behind[name]:
            ahead_many[later] -= 1
            if ahead_many[later] == 0:
                order.append(later)
        at += 1
    return order
