"""ARCS, RINGS, and LOTS of tasks that lead to one another; of LOOPS that are LIVE or not."""

from math import gcd

from unwaited.forms import is_count, is_name, is_tuple_of, names_of, reads_of, task_of, told_arcs


def arcs_of(loop):
    """Returns the ascending tuple of the ARCS."""
    return tuple(sorted(set(told_arcs(loop))))


def arcs_from(loop, name):
    """Returns the ascending tuple of the ARCS from a task; raises NoTask(name) if there is no such task."""
    task_of(loop, name)
    return tuple([arc for arc in arcs_of(loop) if arc[0] == name])


def arcs_to(loop, name):
    """Returns the ascending tuple of the ARCS to a task; raises NoTask(name) if there is no such task."""
    task_of(loop, name)
    return tuple([arc for arc in arcs_of(loop) if arc[1] == name])


def readers_of(loop, name):
    """Returns the ascending tuple of the READERS of a task; raises NoTask(name) if there is no such task."""
    task_of(loop, name)
    return tuple([(later, d) for later, _, body in loop[0] for earlier, d in reads_of(body) if earlier == name])


def readers_by_name(loop):
    """Returns the dict from the names of all READ tasks to the ascending tuples of their READERS."""
    readers = {}
    for later, _, body in loop[0]:
        for earlier, d in reads_of(body):
            readers.setdefault(earlier, []).append((later, d))
    return {name: tuple(readers[name]) for name in sorted(list(readers))}


def arcs_by_earlier(loop):
    """Returns the dict from all names to the ascending lists of the ARCS from them."""
    arcs = {name: [] for name in names_of(loop)}
    for arc in arcs_of(loop):
        arcs[arc[0]].append(arc)
    return arcs


def arcs_by_later(loop):
    """Returns the dict from all names to the ascending lists of the ARCS to them."""
    arcs = {name: [] for name in names_of(loop)}
    for arc in arcs_of(loop):
        arcs[arc[1]].append(arc)
    return arcs


def are_linked(loop, thing):
    """Tells whether any value is a tuple of ARCS, each from the task to which the one ahead of it leads."""
    if not isinstance(thing, tuple):
        return False
    arcs = {arc: True for arc in arcs_of(loop)}
    for arc in thing:
        # Asked first, as `True` would pass for the number 1 among the ARCS.
        if not is_tuple_of(arc, 3) or not is_name(arc[0]) or not is_name(arc[1]) or not is_count(arc[2]):
            return False
        if arc not in arcs:
            return False
    return all([thing[at][1] == thing[at + 1][0] for at in range(len(thing) - 1)])


def is_ring(loop, thing):
    """Tells whether any value is a RING."""
    return are_linked(loop, thing) and len(thing) > 0 and thing[0][0] == thing[-1][1]


def fewest_arcs(loop, goal, most):
    """Returns the dict from each couple (name, sum) such that a PATH with this SUM, at most most, leads from
    this task to goal, to the fewest ARCS of such a PATH."""
    arcs = arcs_by_later(loop)
    many = {(goal, 0): 0}
    layer = [(goal, 0)]
    while layer:
        farther = []
        for name, total in layer:
            for earlier, _, d in arcs[name]:
                if total + d <= most and (earlier, total + d) not in many:
                    many[(earlier, total + d)] = many[(name, total)] + 1
                    farther.append((earlier, total + d))
        layer = farther
    return many


def least_path(loop, many, name, total):
    """Returns the least PATH with the fewest ARCS from a task with this SUM, many being what fewest_arcs returns;
    there must be one."""
    arcs = arcs_by_earlier(loop)
    path = []
    while many[(name, total)] > 0:
        left = many[(name, total)] - 1
        nearer = [arc for arc in arcs[name] if many.get((arc[1], total - arc[2]), None) == left]
        path.append(nearer[0])
        name, total = nearer[0][1], total - nearer[0][2]
    return tuple(path)


def fewest_to(arcs, goal):
    """Returns the dict from each name from which some of these ARCS lead to goal to the fewest that do."""
    many = {goal: 0}
    layer = [goal]
    while layer:
        farther = []
        for name in layer:
            for earlier, later, _ in arcs:
                if later == name and earlier not in many:
                    many[earlier] = many[name] + 1
                    farther.append(earlier)
        layer = farther
    return many


def least_ring(arcs):
    """Returns the RING of some of these ascending ARCS that has the fewest of them, of these the least; None if
    there is none."""
    fewest = {name: fewest_to(arcs, name) for name in sorted(set([arc[0] for arc in arcs]))}
    closing = [(fewest[arc[0]][arc[1]], arc) for arc in arcs if arc[1] in fewest[arc[0]]]
    if len(closing) == 0:
        return None
    left, first = min(closing)
    ring = [first]
    for nearer in reversed(range(left)):
        fitting = [arc for arc in arcs if arc[0] == ring[-1][1] and fewest[first[0]].get(arc[1], None) == nearer]
        ring.append(fitting[0])
    return tuple(ring)


def dead_ring(loop):
    """Returns a RING with the SUM 0 that has the fewest ARCS, of these the least; None if the LOOP is LIVE."""
    return least_ring([arc for arc in arcs_of(loop) if arc[2] == 0])


def reached_along(arcs, name):
    """Returns the dict from each task to which PATHS lead from this one, itself among them, to the SUM of one; arcs
    are what arcs_by_earlier returns."""
    sums = {name: 0}
    left = [name]
    while left:
        earlier = left.pop()
        for _, later, d in arcs[earlier]:
            if later not in sums:
                sums[later] = sums[earlier] + d
                left.append(later)
    return sums


def reached_from(loop, name):
    """Returns the dict from each task to which PATHS lead from this one, itself among them, to the SUM of one."""
    return reached_along(arcs_by_earlier(loop), name)


def lots_of(loop):
    """Returns the ascending tuple of all LOTS."""
    arcs = arcs_by_earlier(loop)
    reached = {name: reached_along(arcs, name) for name in names_of(loop)}
    lots = []
    for name, others in reached.items():
        lots.append(tuple([other for other in names_of(loop) if other in others and name in reached[other]]))
    return tuple(sorted(set(lots)))


def modulus_of(loop, name):
    """Returns the greatest integer that divides the SUMS of all RINGS from a task to itself, 0 if there is no such
    RING, or none with a SUM above 0; raises NoTask(name) if there is no such task."""
    task_of(loop, name)
    sums = reached_from(loop, name)
    own_lots = [lot for lot in lots_of(loop) if name in lot]
    divisor = 0
    # An ARC to a task closes two RINGS: one by way of it, one by way of the PATH known to this task.
    # Their SUMS differ by just this, and all SUMS of RINGS are sums of such differences.
    for earlier, later, d in arcs_of(loop):
        if earlier in own_lots[0] and later in own_lots[0]:
            divisor = gcd(divisor, sums[earlier] + d - sums[later])
    return divisor
