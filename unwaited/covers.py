"""COVERS: the ARCS from which all others follow; WAITS that say nothing of their own; and LOOPS with the same RUNS."""

from unwaited.arcs import arcs_by_earlier, arcs_of, readers_by_name
from unwaited.errors import Nothing
from unwaited.forms import names_of
from unwaited.runs import least_run
from unwaited.sums import reach


def sums_from_all(loop, arcs):
    """Returns the dict from all names to their REACHES, as far as some ARCS lead."""
    most = max([d for _, _, d in arcs], default=0)
    return {name: reach(loop, name, most) for name in names_of(loop)}


def is_cover(arcs, sums, arc):
    """Tells whether an ARC is a COVER, arcs being what arcs_by_earlier returns, sums what sums_from_all does."""
    earlier, later, d = arc
    for first in arcs[earlier]:
        _, middle, e = first
        # Behind the ARC itself only () would lead on to later: as the LOOP is LIVE, nothing else has the SUM 0.
        if first != arc and d - e in sums[middle][later]:
            return False
    return True


def covers(loop):
    """Returns the ascending tuple of the COVERS."""
    sums = sums_from_all(loop, arcs_of(loop))
    arcs = arcs_by_earlier(loop)
    return tuple([arc for arc in arcs_of(loop) if is_cover(arcs, sums, arc)])


def needless_waits(loop):
    """Returns the ascending tuple of the NEEDLESS WAITS."""
    told = covers(loop)
    readers = readers_by_name(loop)
    return tuple([(later, earlier, d) for later, earlier, d in loop[1]
                  if (earlier, later, d) not in told or (later, d) in readers.get(earlier, ())])


def least_waits(loop):
    """Returns the ascending tuple of the WAITS that are not NEEDLESS."""
    needless = needless_waits(loop)
    return tuple([wait for wait in loop[1] if wait not in needless])


def with_waits(loop, waits):
    """Returns the LOOP with just these WAITS, LIVE or not."""
    return (loop[0], waits)


def struck(loop):
    """Returns the LOOP without all NEEDLESS WAITS."""
    return with_waits(loop, least_waits(loop))


def parting_steps(one, other):
    """Returns the list of the STEPS (b, d) for which other has an ARC (a, b, d), but (a, 0) is not BEFORE them in
    one."""
    arcs = arcs_of(other)
    sums = sums_from_all(one, arcs)
    return [(later, d) for earlier, later, d in arcs if d not in sums[earlier][later]]


def runs_within(one, other):
    """Tells whether every RUN of one is a RUN of other."""
    return len(parting_steps(one, other)) == 0


def same_runs(one, other):
    """Tells whether two loops have the same RUNS."""
    return covers(one) == covers(other)


def parting_run(one, other):
    """Returns a RUN of one that is none of other, with as few STEPS as possible; raises Nothing() if there is
    none."""
    runs = [least_run(one, [step]) for step in parting_steps(one, other)]
    if len(runs) == 0:
        raise Nothing()
    fewest = min([len(run) for run in runs])
    return min([run for run in runs if len(run) == fewest])
