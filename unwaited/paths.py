"""PATHS, and which STEPS are BEFORE which."""

from unwaited.arcs import are_linked, arcs_by_later, fewest_arcs, least_path
from unwaited.sums import sums_below


def is_path(loop, one, other, thing):
    """Tells whether any value is a PATH from one name to another one."""
    if not are_linked(loop, thing):
        return False
    if len(thing) == 0:
        return one == other
    return thing[0][0] == one and thing[-1][1] == other


def sum_of(path):
    """Returns the SUM of a PATH."""
    return sum([d for _, _, d in path])


def path_with(loop, one, other, number):
    """Returns a PATH from one to other with this SUM that has the fewest ARCS, of these the least;
    None if there is none."""
    many = fewest_arcs(loop, other, number)
    if (one, number) not in many:
        return None
    return least_path(loop, many, one, number)


def is_before(loop, one, other):
    """Tells whether a STEP is BEFORE another one."""
    number = other[1] - one[1]
    # In a LIVE LOOP only () has the SUM 0 from a task to itself, and it is no PATH of at least one ARC.
    if number < 0 or one == other:
        return False
    return number in sums_below(loop, one[0], other[0], number + 1)


def nearest_before(arcs, step):
    """Returns the list of the STEPS from which one ARC leads to a STEP; arcs are what arcs_by_later returns."""
    name, at = step
    return [(earlier, at - d) for earlier, _, d in arcs[name] if d <= at]


def before_along(arcs, steps):
    """Returns the dict of True of all STEPS that are BEFORE one of these; arcs are what arcs_by_later returns."""
    before = {}
    left = list(steps)
    while left:
        later = left.pop()
        for step in nearest_before(arcs, later):
            if step not in before:
                before[step] = True
                left.append(step)
    return before


def before_any(loop, steps):
    """Returns the list of all STEPS that are BEFORE one of these."""
    return list(before_along(arcs_by_later(loop), steps))


def steps_before(loop, step):
    """Returns the ascending tuple of all STEPS that are BEFORE a STEP."""
    return tuple(sorted(before_any(loop, [step])))
