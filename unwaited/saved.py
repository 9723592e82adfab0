"""What a WAIT more saves in CELLS."""

from itertools import combinations

from unwaited.arcs import dead_ring
from unwaited.covers import with_waits
from unwaited.errors import Dead, Nothing, TooMany
from unwaited.forms import is_live_loop, names_of, reads_of
from unwaited.matchings import fewest_cells
from unwaited.sums import reach
from unwaited.turns import endless_tasks

MOST_TO_COUPLE = 24


def with_more(loop, waits):
    """Returns the LOOP with these WAITS more, LIVE or not."""
    return with_waits(loop, tuple(sorted(set([*loop[1], *waits]))))


def loop_with(loop, wait):
    """Returns the loop with this WAIT more; raises Dead(ring) with its dead_ring if it is not LIVE."""
    more = with_more(loop, [wait])
    ring = dead_ring(more)
    if ring is not None:
        raise Dead(ring)
    return more


def cells_with(loop, wait):
    """Returns the fewest CELLS of the loop with this WAIT more, None if there are none; raises what loop_with does."""
    return fewest_cells(loop_with(loop, wait), False)


def follows_from(idle, d, rings):
    """Tells whether a WAIT with d follows from PATHS, or from a WAIT between the same tasks that saves nothing, so that
    it saves nothing, either; idle are the d of such, rings the SUMS of PATHS from one of the tasks to itself."""
    return any([d - less in rings for less in idle])


def bare(loop):
    """Returns a LOOP with the same READERS and WAITS that has nothing but reads in its bodies: these are taken apart
    very often here."""
    tasks = []
    for name, first, body in loop[0]:
        reads = ("round",)
        for earlier, d in reads_of(body):
            reads = ("two", "+", reads, ("read", earlier, d))
        tasks.append((name, first, reads))
    return (tuple(tasks), loop[1])


def has_fewest(loop, wait):
    """Tells whether there are fewest CELLS of the loop with this WAIT more; this does not hang on its d."""
    return len(endless_tasks(with_more(loop, [wait]))) == 0


def savings(loop, most):
    """Returns the dict from all WAITS with d at most most that the loop does not have, and with which it stays LIVE,
    to the fewest CELLS with them, None if there are none."""
    names = names_of(loop)
    sums = {name: reach(loop, name, most) for name in names}
    had = fewest_cells(loop, False)
    plain = bare(loop)
    cells = {}
    for later in names:
        for earlier in names:
            idle = list(sums[earlier][later])
            is_hopeless = had is None and not has_fewest(plain, (later, earlier, 1))
            for d in range(most + 1):
                wait = (later, earlier, d)
                if wait in loop[1] or (d == 0 and 0 in sums[later][earlier]):
                    continue
                follows = is_hopeless or follows_from(idle, d, sums[earlier][earlier] + sums[later][later])
                cells[wait] = had if follows else fewest_cells(with_more(plain, [wait]), False)
                if cells[wait] == had:
                    idle.append(d)
    return cells


def is_fewer(many, other):
    """Tells whether one number of CELLS is less than another one, None being greater than any."""
    return many is not None and (other is None or many < other)


def best_wait(loop, most):
    """Returns the WAIT of savings with the fewest CELLS, of several the least; raises Nothing() if there are no fewer
    with any of them than without."""
    best = None
    fewest = fewest_cells(loop, False)
    for wait, many in savings(loop, most).items():
        if is_fewer(many, fewest):
            best, fewest = wait, many
    if best is None:
        raise Nothing()
    return best


def is_enough(cells, m):
    """Tells whether a number of CELLS, None if none is enough, is at most m."""
    return cells is not None and cells <= m


def couples_of(waits):
    """Returns the ascending list of all couples of these ascending WAITS."""
    return list(combinations(waits, 2))


def fewest_waits(loop, m, most):
    """Returns the least of the shortest ascending tuples of at most two WAITS of savings with which the loop stays
    LIVE and needs at most m CELLS; raises TooMany(24) if one is not enough, and there are more WAITS; Nothing() if
    there is no such tuple."""
    if is_enough(fewest_cells(loop, False), m):
        return ()
    cells = savings(loop, most)
    for wait, many in cells.items():
        if is_enough(many, m):
            return (wait,)
    if len(cells) > MOST_TO_COUPLE:
        raise TooMany(MOST_TO_COUPLE)
    plain = bare(loop)
    for couple in couples_of(list(cells)):
        more = with_more(plain, couple)
        if is_live_loop(more) and is_enough(fewest_cells(more, False), m):
            return couple
    raise Nothing()
