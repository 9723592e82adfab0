"""LOSING RUNS: in which a reader may find what another STEP has written to the same CELL."""

from unwaited.arcs import arcs_by_later, readers_of
from unwaited.forms import reads_of, task_of
from unwaited.paths import before_along
from unwaited.runs import is_cut_run, is_run, ordered
from unwaited.turns import lot_by


def ways_of(loop, one, other, lot):
    """Returns a list of tuples (x, y, reader, before): how one of two STEPS can be lost by the other one, y, when
    reader comes to it; before is the dict of all that is BEFORE y or reader. Only tasks of the lot may be cut off."""
    arcs = arcs_by_later(loop)
    ways = []
    for x, y in [(one, other), (other, one)]:
        if y in before_along(arcs, [x]):
            continue
        before_y = before_along(arcs, [y])
        for name, d in readers_of(loop, x[0]):
            reader = (name, x[1] + d)
            if reader not in before_y and (reader != y or name in lot):
                ways.append((x, y, reader, before_along(arcs, [y, reader])))
    return ways


def length_of(way):
    """Returns how many items the shortest LOSING RUN of a way has."""
    _, y, _, before = way
    return len(before) + (1 if y in before else 2)


def run_of(loop, way):
    """Returns the least of the shortest RUNS of a way."""
    x, y, reader, before = way
    return (*ordered(loop, sorted(set([y, *before])), [(x, y)], ()), reader)


def cut_run_of(loop, way, lot):
    """Returns the least of the shortest CUT RUNS of a way that are of the lot and end with True."""
    _, y, _, before = way
    run = run_of(loop, way)
    # What nothing behind it needs may be cut off, and False is less than True.
    cut_run = [(step, step != y or y in before or y[0] not in lot) for step in run[:-1]]
    return (*cut_run, (run[-1], True))


def losing_length(loop, one, other, is_cut):
    """Returns how many items a LOSING RUN of two STEPS has at least, None if there is none."""
    return min([length_of(way) for way in ways_of(loop, one, other, lot_by(loop, is_cut))], default=None)


def losing_run(loop, one, other, is_cut):
    """Returns the least of the shortest LOSING RUNS of two STEPS, None if there is none."""
    lot = lot_by(loop, is_cut)
    ways = ways_of(loop, one, other, lot)
    fewest = min([length_of(way) for way in ways], default=None)
    shortest_ways = [way for way in ways if length_of(way) == fewest]
    return min([cut_run_of(loop, way, lot) if is_cut else run_of(loop, way) for way in shortest_ways], default=None)


def is_lost(loop, x, y, items):
    """Tells whether the last one of these tuples (step, is_whole) reads x, and another one of y stands ahead of it,
    behind all of x."""
    name, at = items[-1][0]
    if (x[0], at - x[1]) not in reads_of(task_of(loop, name)[2]):
        return False
    places_x = [place for place, item in enumerate(items) if item[0] == x]
    places_y = [place for place, item in enumerate(items[:-1]) if item[0] == y]
    return len(places_y) > 0 and places_y[-1] > places_x[-1]


def is_losing_run(loop, one, other, is_cut, thing):
    """Tells whether any value is a LOSING RUN of two STEPS."""
    if is_cut:
        if not is_cut_run(loop, thing) or len(thing) == 0 or not thing[-1][1]:
            return False
        items = thing
    else:
        if not is_run(loop, thing) or len(thing) == 0:
            return False
        items = tuple([(step, True) for step in thing])
    return is_lost(loop, one, other, items) or is_lost(loop, other, one, items)
